"""The error classes of the interface."""
import unittest

from firstterms import errors

THING = """BadNumber BadSign BadCount BadBeginning BadProduct NotWhole BadLevel BadDivisor BadOrders BadSum BadForm
BadRow BadTable BadPiece BadBlend BadBlends BadWeight OtherWeight OtherSign OtherLevel HasPole BadPrime BadModulus
NoRemainders BadName NoName NameTaken BadClaim NoClaim""".split()
TOLD = {name: ("thing",) for name in THING}
TOLD.update({
    "DividedByZero": (), "NothingToUndo": (), "NothingToRedo": (), "NotStepping": ("certificate",),
    "TooMany": ("most",), "Needed": ("claim",), "Unkept": ("claim", "certificate"), "BadText": ("at",),
})
VALUES = (0, True, None, "text", (1, (2,)), [1, [2]], {"a": {1: ()}}, 10 ** 99, -5)


class ErrorTest(unittest.TestCase):
    def test_all_are_listed(self):
        found = [name for name, thing in vars(errors).items() if isinstance(thing, type)]
        self.assertEqual(sorted(found), sorted(list(TOLD) + ["TermError"]))
        self.assertEqual(errors.TermError.__bases__, (Exception,))

    def test_each_is_a_direct_subclass_with_its_attributes(self):
        for name, parameters in TOLD.items():
            error = getattr(errors, name)
            self.assertEqual(error.__bases__, (errors.TermError,))
            self.assertEqual(error.__module__, "firstterms.errors")
            for at in range(len(VALUES)):
                values = [VALUES[(at + k) % len(VALUES)] for k in range(len(parameters))]
                by_position, by_name = error(*values), error(**dict(zip(parameters, values)))
                for made in (by_position, by_name):
                    self.assertEqual(list(vars(made)), list(parameters))
                    for parameter, value in zip(parameters, values):
                        self.assertIs(getattr(made, parameter), value)

    def test_attributes_are_there_when_it_is_caught(self):
        for name, parameters in TOLD.items():
            error = getattr(errors, name)
            values = list(range(len(parameters)))
            with self.assertRaises(errors.TermError) as caught:
                raise error(*values)
            self.assertEqual([getattr(caught.exception, word) for word in parameters], values)

    def test_wrong_numbers_of_arguments(self):
        for name, parameters in TOLD.items():
            if parameters:
                with self.assertRaises(TypeError):
                    getattr(errors, name)()
                with self.assertRaises(TypeError):
                    getattr(errors, name)(*range(len(parameters) + 1))
