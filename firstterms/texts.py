"""Texts of blends, and the blends of texts."""
from firstterms.blends import blend_facts, checked_blend
from firstterms.errors import BadText

DIGITS = "0123456789"
# Python itself refuses to read integers of more than 4,300 digits.
MOST_DIGITS = 4000


def blend_text(blend):
    """The text of a blend."""
    checked_blend(blend)
    return " + ".join([f"{number[0]}/{number[1]} {piece_text(piece)}" for piece, number in blend])


def piece_text(piece):
    """The text of a piece."""
    if piece[0] == "product":
        return " ".join(["product"] + [f"{d}^{r}" for d, r in piece[1]])
    if piece[0] == "form":
        return "form " + ";".join([",".join([str(entry) for entry in row]) for row in piece[1]])
    return " ".join([str(item) for item in piece])


def read_blend(text):
    """The blend of a text."""
    if not isinstance(text, str):
        raise BadText(0)
    blend = blend_in(text)
    if blend is None:
        raise BadText(1)
    return blend


def blend_in(text):
    """The blend of a string; None if it is the text of none."""
    blend = tuple([pair_in(part.split(" ")) for part in text.split(" + ")])
    return None if blend_facts(blend) is None else blend


def pair_in(words):
    """The pair of a piece and a number that words tell; None in the place of what they do not tell."""
    number = integers_in(words[0].split("/"))
    if len(words) < 2:
        return None
    if words[1] == "product":
        return ("product", tuple([integers_in(word.split("^")) for word in words[2:]])), number
    if words[1] == "form" and len(words) == 3:
        return ("form", tuple([integers_in(row.split(",")) for row in words[2].split(";")])), number
    if words[1] == "sum":
        return ("sum",) + integers_in(words[2:]), number
    return None


def integers_in(words):
    """The integers that words tell, with None in the place of each word that is none as Python writes it."""
    return tuple([integer_in(word) for word in words])


def integer_in(word):
    """The integer that a word tells as Python writes it; None if there is none."""
    digits = word[1:] if word.startswith("-") else word
    if not 1 <= len(digits) <= MOST_DIGITS or not all([digit in DIGITS for digit in digits]):
        return None
    integer = int(word)
    return integer if str(integer) == word else None
