"""Tuples that begin with a word: pieces and certificates are told by them."""
from firstterms.checks import is_integer


def is_told(thing, word, many):
    """Whether any value is a tuple of so many items, the first of which is this word."""
    return isinstance(thing, tuple) and len(thing) == many and thing[0] == word


def judged(apart, place, kept, lost):
    """The certificate with the word kept and the place if there is no n in apart, else that with the first one."""
    return (lost, apart[0]) if apart else (kept, place)


def does_judge(thing, apart, place, kept, lost):
    """Whether any value is a right one of these certificates; with the word lost each n in apart is right."""
    if is_told(thing, lost, 2):
        return is_integer(thing[1]) and thing[1] in apart
    return not apart and is_told(thing, kept, 2) and is_integer(thing[1]) and thing[1] == place
