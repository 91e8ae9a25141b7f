"""The errors that the package raises."""


class TermError(Exception):
    """The base class of all errors of the package."""


class BadNumber(TermError):
    """What should be an integer of some range, or a number, is none."""

    def __init__(self, thing):
        self.thing = thing


class BadSign(TermError):
    """What should be a sign is none."""

    def __init__(self, thing):
        self.thing = thing


class BadCount(TermError):
    """What should be an integer from 1 to 400 is none."""

    def __init__(self, thing):
        self.thing = thing


class BadBeginning(TermError):
    """What should be a beginning is none."""

    def __init__(self, thing):
        self.thing = thing


class DividedByZero(TermError):
    """A beginning whose first term is 0 has no power below 0."""


class BadProduct(TermError):
    """What should be a product is none."""

    def __init__(self, thing):
        self.thing = thing


class NotWhole(TermError):
    """The product is not whole, so it has no sign."""

    def __init__(self, thing):
        self.thing = thing


class BadLevel(TermError):
    """What should be a level is none, or a level came to more than 400."""

    def __init__(self, thing):
        self.thing = thing


class BadDivisor(TermError):
    """What should be a divisor of the level is none."""

    def __init__(self, thing):
        self.thing = thing


class BadOrders(TermError):
    """What should be a number for each divisor of the level is none."""

    def __init__(self, thing):
        self.thing = thing


class BadSum(TermError):
    """What should be a divisor piece is none."""

    def __init__(self, thing):
        self.thing = thing


class BadForm(TermError):
    """What should be a form is none."""

    def __init__(self, thing):
        self.thing = thing


class BadRow(TermError):
    """What should be a tuple of unknowns of the form is none."""

    def __init__(self, thing):
        self.thing = thing


class BadTable(TermError):
    """What should be a table of determinant 1 or -1 is none."""

    def __init__(self, thing):
        self.thing = thing


class BadPiece(TermError):
    """What should be a piece is none."""

    def __init__(self, thing):
        self.thing = thing


class BadBlend(TermError):
    """What should be a blend is none."""

    def __init__(self, thing):
        self.thing = thing


class BadBlends(TermError):
    """What should be a tuple of one to twelve blends is none."""

    def __init__(self, thing):
        self.thing = thing


class BadWeight(TermError):
    """The weight is none of those that are asked for."""

    def __init__(self, thing):
        self.thing = thing


class OtherWeight(TermError):
    """The blend has another weight than the one that is asked for."""

    def __init__(self, thing):
        self.thing = thing


class OtherSign(TermError):
    """The blend has another sign than the one that is asked for."""

    def __init__(self, thing):
        self.thing = thing


class OtherLevel(TermError):
    """The level is no multiple of what should divide it, or does not divide what it should."""

    def __init__(self, thing):
        self.thing = thing


class HasPole(TermError):
    """The blend has a pole where there should be none."""

    def __init__(self, thing):
        self.thing = thing


class BadPrime(TermError):
    """What should be a prime number below 100 is none."""

    def __init__(self, thing):
        self.thing = thing


class BadModulus(TermError):
    """What should be a modulus is none."""

    def __init__(self, thing):
        self.thing = thing


class NoRemainders(TermError):
    """The blend does not keep remainders by the modulus."""

    def __init__(self, thing):
        self.thing = thing


class NotStepping(TermError):
    """The blend is not stepping, as the certificate shows."""

    def __init__(self, certificate):
        self.certificate = certificate


class TooMany(TermError):
    """There are more things, or a number is greater, than the most that may be."""

    def __init__(self, most):
        self.most = most


class BadName(TermError):
    """What should be a name is none."""

    def __init__(self, thing):
        self.thing = thing


class NoName(TermError):
    """The desk has no blend of this name."""

    def __init__(self, thing):
        self.thing = thing


class NameTaken(TermError):
    """The name stands for a blend already."""

    def __init__(self, thing):
        self.thing = thing


class Needed(TermError):
    """The claim has the name that should be dropped."""

    def __init__(self, claim):
        self.claim = claim


class BadClaim(TermError):
    """What should be a new, sound claim is none."""

    def __init__(self, thing):
        self.thing = thing


class Unkept(TermError):
    """The claim would not be kept, as the certificate shows; None if it would not be sound."""

    def __init__(self, claim, certificate):
        self.claim = claim
        self.certificate = certificate


class NoClaim(TermError):
    """The desk has no such claim."""

    def __init__(self, thing):
        self.thing = thing


class NothingToUndo(TermError):
    """No deed is left that could be undone."""


class NothingToRedo(TermError):
    """No deed is left that could be done again."""


class BadText(TermError):
    """The text is wrong: it is no string if at is 0, otherwise the line at is wrong."""

    def __init__(self, at):
        self.at = at
