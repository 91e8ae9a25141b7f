"""Desks: named blends, and claims on them that are kept for all n."""
from firstterms.blends import checked_blend
from firstterms.claims import (
    certificate_of, claim_text, does_name, is_claim, is_first_kind, is_name, names_of, read_claim)
from firstterms.errors import (
    BadClaim, BadName, BadText, NameTaken, Needed, NoClaim, NoName, NothingToRedo, NothingToUndo, TermError, Unkept)
from firstterms.texts import blend_text, read_blend


class Desk:
    """Named blends and claims on them, with what was done last to be undone and done again."""

    def __init__(self):
        # All parts of a standing are tuples, so a standing never changes and may be kept.
        self.standing = ((), ())
        self.past = []
        self.future = []

    def blends(self):
        """The ascending tuple of the pairs of a name and a blend."""
        return self.standing[0]

    def claims(self):
        """The tuple of the claims, in the order in which they were taken up."""
        return self.standing[1]

    def text(self):
        """The text of the desk."""
        lines = [f"{name} = {blend_text(blend)}" for name, blend in self.standing[0]]
        return "\n".join(lines + [claim_text(words) for words in self.standing[1]])

    def undoable(self):
        """How many deeds can be undone."""
        return len(self.past)

    def redoable(self):
        """How many deeds can be done again."""
        return len(self.future)

    def is_same(self, thing):
        """Whether any value is a desk with an equal standing."""
        return isinstance(thing, Desk) and thing.standing == self.standing

    def copied(self):
        """A new desk with the same standing, and nothing to undo or to redo."""
        desk = Desk()
        desk.standing = self.standing
        return desk

    def put(self, name, blend):
        """Names a blend."""
        if not is_name(name):
            raise BadName(name)
        named = self.named_blends()
        if name in named:
            raise NameTaken(name)
        checked_blend(blend)
        named[name] = blend
        self.take_standing(named, self.standing[1])

    def blend_named(self, name):
        """The blend of a name."""
        return self.checked_names(name)[name]

    def change(self, name, blend):
        """Lets a name stand for another blend."""
        named = self.checked_names(name)
        checked_blend(blend)
        named[name] = blend
        for words in self.standing[1]:
            if name in names_of(words):
                check_kept(words, certificate_of(words, named))
        self.take_standing(named, self.standing[1])

    def drop(self, name):
        """Takes a named blend away."""
        named = self.checked_names(name)
        for words in self.standing[1]:
            if name in names_of(words):
                raise Needed(words)
        del named[name]
        self.take_standing(named, self.standing[1])

    def claim(self, words):
        """Takes a claim up."""
        named = self.named_blends()
        if not is_claim(words, named) or words in self.standing[1]:
            raise BadClaim(words)
        certificate = certificate_of(words, named)
        if certificate is None:
            raise BadClaim(words)
        check_kept(words, certificate)
        self.take_standing(named, self.standing[1] + (words,))

    def release(self, words):
        """Has a claim no more."""
        # A value that is no claim may be equal to one: True is equal to 1.
        if not is_claim(words, self.named_blends()) or words not in self.standing[1]:
            raise NoClaim(words)
        self.take_standing(self.named_blends(), tuple([other for other in self.standing[1] if other != words]))

    def undo(self):
        """Gives the desk the standing ahead of the last deed that is not undone."""
        if not self.past:
            raise NothingToUndo()
        self.future.append(self.standing)
        self.standing = self.past.pop()

    def redo(self):
        """Gives the desk the standing that the deed that was undone last had left."""
        if not self.future:
            raise NothingToRedo()
        self.past.append(self.standing)
        self.standing = self.future.pop()

    def named_blends(self):
        """The blends by their names, in a new dict."""
        return dict(self.standing[0])

    def checked_names(self, name):
        """The blends by their names, in a new dict; raises NoName if a value is none of the names."""
        named = self.named_blends()
        if not does_name(name, named):
            raise NoName(name)
        return named

    def take_standing(self, named, claims):
        """Gives the desk a new standing, as a deed does."""
        self.past.append(self.standing)
        self.future = []
        self.standing = (tuple(sorted([(name, named[name]) for name in named])), claims)


def check_kept(words, certificate):
    """Raises Unkept if a certificate tells that a claim is not kept, or if it is None."""
    if not is_first_kind(certificate):
        raise Unkept(words, certificate)


def read_desk(text):
    """A new desk with the standing of a text."""
    if not isinstance(text, str):
        raise BadText(0)
    desk = Desk()
    if text == "":
        return desk
    for i, line in enumerate(text.split("\n")):
        if not does_take(desk, line):
            raise BadText(i + 1)
    return desk.copied()


def does_take(desk, line):
    """Whether a line stands rightly behind those of a desk, which then has it."""
    try:
        if " = " in line:
            return does_take_blend(desk, line)
        desk.claim(read_claim(line))
        return True
    except TermError:
        return False


def does_take_blend(desk, line):
    """Whether a line with a name and a blend stands rightly behind those of a desk, which then has it."""
    name, _, rest = line.partition(" = ")
    named = desk.blends()
    if desk.claims() or (named and name <= named[-1][0]):
        return False
    desk.put(name, read_blend(rest))
    return True
