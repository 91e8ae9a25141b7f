"""Point 0.2 over the whole program: any value, desks among them, in each place that accepts any value."""
import importlib
import inspect
import unittest

from firstterms import errors
from firstterms.desks import Desk
from tests.test_blends import DELTA, FOUR
from tests.test_interface import INTERFACE
from tests.test_steps import ELEVEN

DESK = Desk()
DESK.put("four", FOUR)
DESK.claim(("equal", "four", "four"))
# Values that are none of the kinds that the program knows but desks, in ever other ways.
WRONG = (
    DESK, (DESK,), [DESK], {"four": DESK}, ((((((DESK,),),),),),), (DESK, 1), (1, DESK), (1, (DESK,)), (DESK, (1,)),
    ((DESK, 1),), ((1, DESK),), ("product", DESK), ("product", ((1, DESK),)), ("form", DESK),
    ("form", ((2, DESK), (DESK, 2))), ("sum", DESK, 1, 1, 1), ("sum", 4, DESK, 1, 1), ("sum", 4, 1, DESK, 1),
    ("sum", 4, 1, 1, DESK), (DESK, 4, 1, 1, 1), ((("sum", 4, 1, 1, 1), DESK),), ((DESK, (1, 1)),),
    ((("sum", 4, 1, 1, 1), (1, DESK)),), (FOUR, DESK), (DESK, FOUR), ("equal", DESK), ("apart", DESK), ("nought", DESK),
    ("term", DESK), ("none", DESK), ("pole", DESK), ("none", (DESK,)), ("multiple", DESK), ("multiple", (1, DESK)),
    ("not", DESK), ("not", (DESK,)), ("not", DESK, DESK), ("not", 0, DESK), ("base", DESK), ("base", (DESK,)),
    ("few", DESK), ("relation", (DESK,)), ("steps", DESK), ("first", DESK), ("divisible", DESK), ("alike", DESK),
    ("equal", DESK, DESK), ("sum", "four", (DESK,)), ("stepping", DESK), ("step", "four", DESK), (DESK, "four"), None,
    True, False, [], {}, {1: [(), {2: DESK}]}, [[[[[[[[[[[[]]]]]]]]]]]], (True, True), ((True, 1),), (None,) * 2000,
    ["x"] * 1999, {"a": {"b": {"c": {"d": {"e": (DESK, [DESK])}}}}},
)
# Right arguments, by the names of the parameters, and by the file where they are of another kind.
RIGHT = {
    "level": 4, "product": ((2, 12),), "form": ((2, 0), (0, 2)), "piece": ("product", ((1, 24),)), "blend": DELTA,
    "sign": -4, "prime": 2, "many": 3, "beginning": (1, (1, 2)), "divisor_piece": ("sum", 4, 1, 1, 1), "n": 1, "k": 1,
    "m": 2, "number": (1, 2), "d": 2, "s": 2, "t": 2, "most": 9, "c": 2, "orders": ((0, 1), (0, 1), (0, 1)),
    "x": (1, 1), "table": ((1, 0), (0, 1)), "first": 0, "blends": (DELTA,), "weight": 12, "modulus": 5, "stride": 1,
    "due": DELTA, "thing": None, "text": "",
}
KINDS = {
    "level": "BadLevel", "product": "BadProduct", "form": "BadForm", "piece": "BadPiece", "blend": "BadBlend",
    "sign": "BadSign", "prime": "BadPrime", "many": "BadCount", "beginning": "BadBeginning", "divisor_piece": "BadSum",
    "n": "BadNumber", "k": "BadNumber", "m": "BadNumber", "number": "BadNumber", "d": "BadNumber", "s": "BadNumber",
    "t": "BadNumber", "most": "BadNumber", "c": "BadDivisor", "orders": "BadOrders", "x": "BadRow", "table": "BadTable",
    "first": "BadNumber", "blends": "BadBlends", "weight": "BadWeight", "modulus": "BadModulus", "stride": "BadNumber",
    "due": "BadBlend",
}
PAIRS = {
    "integers": (1, "BadSign"), "signs": (-4, "BadSign"), "beginnings": ((1, (1,)), "BadBeginning"),
    "products": (((1, 1),), "BadProduct"), "forms": (((2, 0), (0, 2)), "BadForm"), "blends": (DELTA, "BadBlend"),
    "equal": (DELTA, "BadBlend"), "rowproducts": (DELTA, "BadBlend"), "remainders": (DELTA, "BadBlend"),
}
OWN = {
    ("rowproducts", "due"): ((("product", ((1, 48),)), (1, 1)),), ("stepping", "blend"): ELEVEN, ("bases", "level"): 1,
    ("texts", "text"): "1/1 product", ("pieces", "piece"): ("product", ((1, 8), (2, 8))), ("forms", "m"): 4,
}


def right(file, name):
    """A right argument for a parameter of a function of a file."""
    if name in ("one", "other"):
        return PAIRS[file][0]
    return OWN.get((file, name), RIGHT[name])


def kind_of(file, name):
    return PAIRS[file][1] if name in ("one", "other") else KINDS[name]


class AnyValueTest(unittest.TestCase):
    def functions(self):
        for file, functions in INTERFACE.items():
            module = importlib.import_module("firstterms." + file)
            for name in functions:
                yield file, getattr(module, name)

    def raised(self, function, args):
        """The error of a call, by position and by name."""
        with self.assertRaises(errors.TermError, msg=(function.__name__, args)) as caught:
            function(*args)
        names = list(inspect.signature(function).parameters)
        with self.assertRaises(caught.exception.__class__) as again:
            function(**dict(zip(names, args)))
        self.assertEqual(repr(vars(caught.exception)), repr(vars(again.exception)))
        return caught.exception

    def test_right_arguments(self):
        """The arguments that the other tests here spoil are right ones."""
        for file, function in self.functions():
            function(*[right(file, name) for name in inspect.signature(function).parameters])

    def test_each_parameter(self):
        before = DESK.text(), DESK.undoable(), DESK.redoable()
        for file, function in self.functions():
            names = list(inspect.signature(function).parameters)
            for at, name in enumerate(names):
                for thing in WRONG:
                    args = [right(file, other) for other in names]
                    args[at] = thing
                    if name == "thing":
                        self.assertIs(function(*args), False, (function.__name__, thing))
                    elif name == "text":
                        self.assertEqual(self.raised(function, args).at, 0)
                    else:
                        error = self.raised(function, args)
                        self.assertEqual(error.__class__.__name__, kind_of(file, name),
                                         (function.__name__, name, thing))
                        self.assertIs(error.thing, thing)
        self.assertEqual((DESK.text(), DESK.undoable(), DESK.redoable()), before)

    def test_the_first_parameter_is_first(self):
        """With all parameters wrong the first one's error comes, unless the document says otherwise."""
        for file, function in self.functions():
            names = [name for name in inspect.signature(function).parameters]
            if len(names) > 1 and "thing" not in names[:1]:
                args = [WRONG[1 + k] for k in range(len(names))]
                error = self.raised(function, args)
                self.assertEqual(error.__class__.__name__, kind_of(file, names[0]), function.__name__)
                self.assertIs(error.thing, args[0])

    def test_orders_that_are_told(self):
        from firstterms.remainders import remainder_at
        error = self.raised(remainder_at, (DELTA, DESK, DESK))
        self.assertIsInstance(error, errors.BadModulus)

    def test_methods(self):
        for thing in WRONG:
            before = DESK.text(), DESK.undoable(), DESK.redoable()
            for method, args, kind in ((DESK.put, (thing, FOUR), "BadName"), (DESK.put, ("a", thing), "BadBlend"),
                                       (DESK.blend_named, (thing,), "NoName"), (DESK.change, (thing, FOUR), "NoName"),
                                       (DESK.change, ("four", thing), "BadBlend"), (DESK.drop, (thing,), "NoName"),
                                       (DESK.claim, (thing,), "BadClaim"), (DESK.release, (thing,), "NoClaim")):
                error = self.raised(method, args)
                self.assertEqual(error.__class__.__name__, kind)
                self.assertIs(error.thing, thing)
            self.assertIs(DESK.is_same(thing), thing is DESK)
            self.assertEqual((DESK.text(), DESK.undoable(), DESK.redoable()), before)

    def test_the_same_call_again(self):
        """Results depend on the arguments alone."""
        for file, function in self.functions():
            args = [right(file, name) for name in inspect.signature(function).parameters]
            shown = repr(args)
            first = function(*args)
            again = function(*args)
            if file != "desks":
                self.assertEqual(repr(first), repr(again))
            else:
                self.assertTrue(first.is_same(again))
            self.assertEqual(repr(args), shown)
