"""Claims on named blends: which values are claims, what they rest on, and their texts."""
from firstterms.certificates import is_told
from firstterms.checks import is_integer
from firstterms.equal import judge_equal
from firstterms.errors import TermError
from firstterms.remainders import judge_alike, judge_divisible
from firstterms.rowproducts import judge_times
from firstterms.stepping import judge_stepping
from firstterms.steps import judge_step
from firstterms.texts import integer_in
from firstterms.within import judge_within

LETTERS = "abcdefghijklmnopqrstuvwxyz"
# How many names and how many integers follow each word but "sum".
SHAPES = {"equal": (2, 0), "times": (3, 0), "stepping": (1, 0), "step": (1, 1), "divisible": (1, 2), "alike": (2, 1)}
# The words of the certificates of the first kinds.
KEPT = ("equal", "sum", "steps", "multiple", "divisible", "alike")


def is_name(thing):
    """Whether any value is a name."""
    return isinstance(thing, str) and 1 <= len(thing) <= 20 and all([letter in LETTERS for letter in thing])


def does_name(thing, named):
    """Whether any value is a name that stands for a blend in a dict of named ones."""
    return isinstance(thing, str) and thing in named


def is_claim(thing, named):
    """Whether any value is a claim on the blends of a dict of named ones."""
    if is_told(thing, "sum", 3):
        names = thing[2]
        return does_name(thing[1], named) and isinstance(names, tuple) and 1 <= len(names) <= 12 and all(
            [does_name(name, named) for name in names])
    if not isinstance(thing, tuple) or len(thing) == 0 or not isinstance(thing[0], str) or thing[0] not in SHAPES:
        return False
    names, integers = SHAPES[thing[0]]
    if len(thing) != 1 + names + integers:
        return False
    return all([does_name(name, named) for name in thing[1:1 + names]]) and all(
        [is_integer(item) for item in thing[1 + names:]])


def names_of(words):
    """The names that a claim has."""
    if words[0] == "sum":
        return (words[1],) + words[2]
    return words[1:1 + SHAPES[words[0]][0]]


def certificate_of(words, named):
    """The certificate that tells whether a claim is kept; None if the claim is not sound."""
    try:
        return judged_claim(words, [named[name] for name in names_of(words)])
    except TermError:
        return None


def judged_claim(words, blends):
    """The certificate that tells whether a claim on these blends is kept; raises an error if it is not sound."""
    word = words[0]
    if word == "equal":
        return judge_equal(blends[0], blends[1])
    if word == "times":
        return judge_times(blends[0], blends[1], blends[2])
    if word == "sum":
        return judge_within(blends[0], tuple(blends[1:]))
    if word == "stepping":
        return judge_stepping(blends[0])
    if word == "step":
        return judge_step(blends[0], words[2])
    if word == "divisible":
        return judge_divisible(blends[0], words[2], words[3])
    return judge_alike(blends[0], blends[1], words[3])


def is_first_kind(certificate):
    """Whether a certificate, or None, tells that a claim is kept."""
    return certificate is not None and certificate[0] in KEPT


def claim_text(words):
    """The line of a claim in the text of a desk."""
    items = words[:2] + words[2] if words[0] == "sum" else words
    return " ".join([str(item) for item in items])


def read_claim(line):
    """The tuple that has this line if it is a claim; with None in the place of items that the line does not tell."""
    words = tuple(line.split(" "))
    if words[0] == "sum":
        return words[:2] + (words[2:],)
    if words[0] not in SHAPES:
        return words
    names = SHAPES[words[0]][0]
    return words[:1 + names] + tuple([integer_in(word) for word in words[1 + names:]])
