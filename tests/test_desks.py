"""Points 11.2 to 11.6: desks, claims, deeds, undo and redo, texts of desks."""
import copy
import random

from firstterms.blends import scaled
from firstterms.desks import Desk, read_desk
from firstterms.equal import equal_holds, judge_equal
from firstterms.errors import (
    BadBlend, BadClaim, BadName, BadText, NameTaken, Needed, NoClaim, NoName, NothingToRedo, NothingToUndo, TermError,
    Unkept)
from firstterms.remainders import alike_holds, divisible_holds, judge_alike, judge_divisible
from firstterms.rowproducts import judge_times, times_hold
from firstterms.stepping import judge_stepping, stepping_holds
from firstterms.steps import judge_step, step_holds
from firstterms.within import judge_within, within_holds
from tests.helpers import HUGE, NO_INTEGERS, CallCase, spoiled
from tests.pool import blend, form, product, total
from tests.test_blends import DELTA, EISEN, FOUR, NO_BLENDS, POLE
from tests.test_forms import SQUARES
from tests.test_remainders import FIVE, SEVEN
from tests.test_steps import ELEVEN, SMALL
from tests.test_texts import told_text
from tests.test_within import EIGHT, SUMS, TWELVE

JACOBI, TWO = blend((total(2, 1, 1, 4), 8)), blend((total(2, 1, 1, 2), 24))
THETA, LEIBNIZ = blend((form(SQUARES[0]), 1)), blend((total(1, -4, 1), 4))
NO_NAMES = NO_INTEGERS + (
    0, 7, "A", "aB", "a b", " a", "a ", "a1", "1", "a_b", "a-b", "a\n", "\n", "a" * 21, "z" * 2000, "{", "`", "~",
    "a.b", ("a",), ["a"], {"a": 1}, ("a", "b"), HUGE,
)
FIRST = {"equal": "equal", "times": "equal", "sum": "sum", "stepping": "steps", "step": "multiple",
         "divisible": "divisible", "alike": "alike"}
NAMED = {
    "four": FOUR, "jacobi": JACOBI, "two": TWO, "theta": THETA, "leibniz": LEIBNIZ, "delta": DELTA, "twelve": TWELVE,
    "eleven": ELEVEN, "eisen": EISEN, "eight": EIGHT, "first": SUMS[0], "second": SUMS[1], "third": SUMS[2],
    "five": FIVE, "seven": SEVEN, "pole": POLE, "one": blend((product(), 1)),
}
KEPT = (
    ("equal", "four", "jacobi"), ("equal", "pole", "pole"), ("times", "theta", "leibniz", "four"),
    ("times", "one", "pole", "pole"), ("sum", "eight", ("first", "second", "third")), ("sum", "first", ("first",)),
    ("sum", "eisen", ("first", "first", "eight")), ("sum", "first", ("first",) * 12), ("stepping", "eleven"),
    ("stepping", "delta"), ("step", "eisen", 2), ("step", "eleven", 97), ("divisible", "five", 5, 5),
    ("divisible", "seven", 7, 7), ("divisible", "delta", 2, 8), ("alike", "delta", "twelve", 691),
    ("alike", "four", "two", 8), ("step", "twelve", 3),
)
UNKEPT = (
    ("equal", "four", "two"), ("equal", "delta", "twelve"), ("times", "theta", "leibniz", "two"),
    ("times", "four", "one", "two"), ("sum", "eight", ("first",)), ("sum", "delta", ("twelve", "twelve")),
    ("stepping", "eisen"), ("stepping", "first"), ("step", "four", 2), ("divisible", "five", 1, 5),
    ("divisible", "five", 5, 25), ("alike", "delta", "twelve", 11), ("alike", "four", "two", 7),
)
NOT_SOUND = (
    ("equal", "four", "delta"), ("equal", "four", "five"), ("times", "theta", "four", "four"),
    ("sum", "delta", ("first",)), ("sum", "pole", ("one",)), ("sum", "one", ("one", "pole")), ("stepping", "pole"),
    ("stepping", "one"), ("step", "pole", 2), ("step", "one", 2), ("step", "eleven", 4), ("step", "eleven", 1),
    ("step", "eleven", 101), ("step", "eleven", -2), ("divisible", "twelve", 1, 5), ("divisible", "five", 0, 5),
    ("divisible", "five", 61, 5), ("divisible", "five", 5, 1), ("divisible", "five", 5, 1001),
    ("divisible", "pole", 1, 5), ("alike", "delta", "twelve", 5), ("alike", "four", "delta", 5),
    ("alike", "four", "five", 5), ("alike", "delta", "twelve", 1), ("alike", "delta", "twelve", HUGE),
)
NO_CLAIMS = NO_INTEGERS + (
    0, (), ("equal",), ("equal", "four"), ("equal", "four", "none"), ("equal", "none", "four"),
    ("equal", "four", "jacobi", "two"), ("equal", "four", ("jacobi",)), ("equal", ("four", "jacobi")),
    ["equal", "four", "jacobi"], ("Equal", "four", "jacobi"), ("apart", "four", "jacobi"), ("equal", "four", None),
    ("equal", FOUR, JACOBI), ("equal", 1, 2), (None, "four", "jacobi"), (["equal"], "four", "jacobi"), ({}, "four"),
    ("times", "theta", "leibniz"), ("times", "theta", "leibniz", "four", "four"), ("sum", "eight", ()),
    ("sum", "eight", "first"), ("sum", "eight", ["first"]), ("sum", "eight", ("none",)),
    ("sum", "eight", ("first",) * 13), ("sum", "none", ("first",)), ("sum", "eight", "first", "second"),
    ("sum", "eight"), ("sum",), ("sum", ("first",), "eight"), ("sum", "eight", (("first",),)),
    ("sum", "eight", ("first", 1)), ("sum", "eight", ("first", None)), ("sum", "eight", ("first", [])),
    ("sum", [], ("first",)), ("sum", "eight", {"first": 1}), ("sums", "eight", ("first",)), ("stepping",),
    ("stepping", "none"), ("stepping", "eleven", 2), ("stepping", ("eleven",)), ("stepping", []), "stepping eleven",
    ("step", "eisen"), ("step", "eisen", "2"), ("step", "eisen", True), ("step", "eisen", (2,)), ("step", 2, "eisen"),
    ("step", "none", 2), ("step", "eisen", 2, 3), ("step", "eisen", None), ("divisible", "five", 5),
    ("divisible", "five", 5, 5, 5), ("divisible", "five", True, 5), ("divisible", "five", 5, True),
    ("divisible", 5, "five", 5), ("divisible", "none", 5, 5), ("divisible", "five", "5", "5"),
    ("divisible", "five", (5, 5)), ("alike", "delta", "twelve"), ("alike", "delta", 691),
    ("alike", "delta", "twelve", "691"), ("alike", "delta", "twelve", True), ("alike", "none", "twelve", 691),
    ("alike", "delta", "twelve", 691, 691), ("alike", 691, "delta", "twelve"), ("multiple", "eisen", 2),
    ("claim", "four"), {"equal": ("four", "jacobi")}, ("four", "jacobi", "equal"),
)


def full_desk():
    desk = Desk()
    for name, blended in NAMED.items():
        desk.put(name, blended)
    return desk


def told_names(words):
    """All names of a claim, in the places where names stand."""
    if words[0] == "sum":
        return (words[1],) + words[2]
    return words[1:{"equal": 3, "times": 4, "stepping": 2, "step": 2, "divisible": 2, "alike": 3}[words[0]]]


def told_judged(words, named):
    """Point 11.3: the certificate of a claim; None if it is not sound."""
    blends = [named[name] for name in told_names(words)]
    calls = {"equal": lambda: judge_equal(*blends), "times": lambda: judge_times(*blends),
             "sum": lambda: judge_within(blends[0], tuple(blends[1:])), "stepping": lambda: judge_stepping(*blends),
             "step": lambda: judge_step(*blends, words[2]), "divisible": lambda: judge_divisible(*blends, *words[2:]),
             "alike": lambda: judge_alike(*blends, words[3])}
    try:
        return calls[words[0]]()
    except TermError:
        return None


def is_right(words, named, certificate):
    """Whether a certificate of a claim is accepted."""
    blends = [named[name] for name in told_names(words)]
    calls = {"equal": lambda: equal_holds(*blends, certificate), "times": lambda: times_hold(*blends, certificate),
             "sum": lambda: within_holds(blends[0], tuple(blends[1:]), certificate),
             "stepping": lambda: stepping_holds(*blends, certificate),
             "step": lambda: step_holds(*blends, words[2], certificate),
             "divisible": lambda: divisible_holds(*blends, *words[2:], certificate),
             "alike": lambda: alike_holds(*blends, words[3], certificate)}
    return calls[words[0]]()


def told_claim_text(words):
    text = words[0]
    for item in words[1:]:
        text += " " + (" ".join(item) if isinstance(item, tuple) else str(item))
    return text


def told_desk_text(standing):
    """Point 11.6, word by word."""
    lines = [name + " = " + told_text(blended) for name, blended in standing[0]]
    return "\n".join(lines + [told_claim_text(words) for words in standing[1]])


class DeskCase(CallCase):
    def state(self, desk):
        return desk.blends(), desk.claims(), desk.undoable(), desk.redoable(), desk.text()

    def does(self, desk, method, *args):
        """A deed, by position on the desk and by name on a twin, that returns nothing."""
        twin = self.twin(desk)
        kept = copy.deepcopy(args)
        self.assertIsNone(getattr(desk, method)(*args))
        names = {"put": ("name", "blend"), "change": ("name", "blend"), "drop": ("name",), "claim": ("words",),
                 "release": ("words",), "undo": (), "redo": ()}[method]
        self.assertIsNone(getattr(twin, method)(**dict(zip(names, args))))
        self.assertEqual(repr(desk.blends() + desk.claims()), repr(twin.blends() + twin.claims()))
        self.assertEqual(repr(args), repr(kept))

    def twin(self, desk):
        return copy.deepcopy(desk)

    def refused(self, desk, error, told, method, *args):
        """A call that raises just this error, and leaves the desk as it was."""
        before = self.state(desk)
        self.refuses(error, told, getattr(desk, method), *args)
        self.assertEqual(repr(self.state(desk)), repr(before))

    def refused_unkept(self, desk, words, named, method, *args):
        """A call that raises Unkept with this claim and a right certificate that is not of the first kind."""
        before = self.state(desk)
        for call in self.calls(getattr(desk, method), args):
            with self.assertRaises(Unkept) as caught:
                call()
            self.assertEqual(list(vars(caught.exception)), ["claim", "certificate"])
            self.assertEqual(repr(caught.exception.claim), repr(words))
            certificate = caught.exception.certificate
            if certificate is None:
                self.assertIsNone(told_judged(words, named))
            else:
                self.assertNotEqual(certificate[0], FIRST[words[0]])
                self.assertTrue(is_right(words, named, certificate))
        self.assertEqual(repr(self.state(desk)), repr(before))


class StandingTest(DeskCase):
    def test_examples(self):
        desk = Desk()
        self.assertEqual(
            [desk.put("squares", THETA), desk.put("sums", LEIBNIZ), desk.claim(("equal", "squares", "sums")),
             desk.undoable(),
             desk.text()],
            [None, None, None, 3, "squares = 1/1 form 2,0;0,2\nsums = 4/1 sum 1 -4 1 1\nequal squares sums"])
        self.refused(desk, Unkept, {"claim": ("equal", "squares", "sums"), "certificate": ("apart", 0)}, "change",
                     "sums",
                     blend((total(1, -4, 1), 3)))
        self.refused(desk, Needed, {"claim": ("equal", "squares", "sums")}, "drop", "sums")
        self.assertEqual([read_desk(desk.text()).is_same(desk), desk.undo(), desk.claims(), desk.redoable()],
                         [True, None, (), 1])
        self.refuses(BadText, {"at": 2}, read_desk, "a = 1/1 sum 4 1 1 1\nstepping a")

    def test_new_desk(self):
        desk = Desk()
        self.assertEqual(self.state(desk), ((), (), 0, 0, ""))
        self.refused(desk, NothingToUndo, {}, "undo")
        self.refused(desk, NothingToRedo, {}, "redo")
        self.assertTrue(Desk().is_same(desk))

    def test_put(self):
        desk = Desk()
        for many, name in enumerate(("b", "a", "abcdefghijklmnopqrst", "z", "equal", "sum")):
            self.does(desk, "put", name, FOUR)
            self.assertEqual(desk.undoable(), many + 1)
            self.assertEqual(desk.blend_named(name), FOUR)
        self.assertEqual([name for name, blended in desk.blends()],
                         ["a", "abcdefghijklmnopqrst", "b", "equal", "sum", "z"])
        for thing in NO_NAMES:
            self.refused(desk, BadName, {"thing": thing}, "put", thing, FOUR)
            self.refused(desk, BadName, {"thing": thing}, "put", thing, None)
        self.refused(desk, NameTaken, {"thing": "a"}, "put", "a", FOUR)
        self.refused(desk, NameTaken, {"thing": "a"}, "put", "a", None)
        for thing in NO_BLENDS + (desk, (desk,), ((desk, (1, 1)),)):
            before = self.state(desk)
            with self.assertRaises(BadBlend) as caught:
                desk.put("c", thing)
            self.assertIs(caught.exception.thing, thing)
            self.assertEqual(self.state(desk), before)

    def test_blend_named(self):
        desk = full_desk()
        for name, blended in NAMED.items():
            self.gives(blended, desk.blend_named, name)
        for thing in NO_NAMES + ("none", "fou", "fours", ""):
            self.refused(desk, NoName, {"thing": thing}, "blend_named", thing)
            self.refused(desk, NoName, {"thing": thing}, "change", thing, FOUR)
            self.refused(desk, NoName, {"thing": thing}, "change", thing, None)
            self.refused(desk, NoName, {"thing": thing}, "drop", thing)

    def test_change_and_drop(self):
        desk = full_desk()
        self.does(desk, "change", "four", DELTA)
        self.assertEqual(desk.blend_named("four"), DELTA)
        self.does(desk, "change", "four", DELTA)
        self.assertEqual(desk.undoable(), len(NAMED) + 2)
        self.does(desk, "drop", "four")
        self.refused(desk, NoName, {"thing": "four"}, "blend_named", "four")
        self.assertEqual(len(desk.blends()), len(NAMED) - 1)
        self.does(desk, "put", "four", POLE)
        for thing in NO_BLENDS:
            self.refused(desk, BadBlend, {"thing": thing}, "change", "four", thing)

    def test_is_same_and_copied(self):
        desk, other = full_desk(), Desk()
        for name in sorted(NAMED, reverse=True):
            other.put(name, NAMED[name])
        self.assertIs(desk.is_same(thing=other), True)
        self.assertIs(desk.is_same(desk), True)
        other.claim(("equal", "four", "jacobi"))
        self.assertIs(desk.is_same(other), False)
        desk.claim(("equal", "four", "jacobi"))
        self.assertIs(desk.is_same(thing=other), True)
        desk.claim(("stepping", "delta"))
        other.release(("equal", "four", "jacobi"))
        other.claim(("stepping", "delta"))
        other.claim(("equal", "four", "jacobi"))
        # The order in which the claims were taken up belongs to the standing.
        self.assertIs(desk.is_same(other), False)
        self.assertIs(other.is_same(desk), False)
        for thing in NO_BLENDS[:40] + (None, (desk.blends(), desk.claims()), desk.text(), (desk,), [desk],
                                       {"desk": desk}, Desk):
            self.assertIs(desk.is_same(thing), False)
        twin = desk.copied()
        self.assertEqual(self.state(twin), self.state(desk)[:2] + (0, 0, desk.text()))
        self.refused(twin, NothingToUndo, {}, "undo")
        before = self.state(desk)
        twin.drop("seven")
        twin.change("eisen", SMALL)
        self.assertEqual(self.state(desk), before)
        desk.undo()
        self.assertEqual(twin.undoable(), 2)
        self.assertIs(desk.is_same(twin), False)
        twin.undo()
        twin.undo()
        self.assertEqual(len(twin.claims()), 2)

    def test_values_that_are_returned_do_not_change(self):
        desk = full_desk()
        kept = desk.blends(), desk.claims()
        shown = repr(kept)
        desk.claim(("equal", "four", "jacobi"))
        desk.drop("seven")
        self.assertEqual(repr(kept), shown)


class ClaimTest(DeskCase):
    def test_kept(self):
        desk = full_desk()
        self.assertEqual({words[0] for words in KEPT}, set(FIRST))
        for many, words in enumerate(KEPT):
            self.does(desk, "claim", words)
            self.assertEqual(desk.claims(), KEPT[:many + 1])
            self.assertEqual(desk.undoable(), len(NAMED) + many + 1)
            self.refused(desk, BadClaim, {"thing": words}, "claim", words)
        for words in KEPT:
            self.refused(desk, BadClaim, {"thing": words}, "claim", words)
        self.assertEqual(desk.text(), told_desk_text((desk.blends(), desk.claims())))
        self.assertTrue(read_desk(desk.text()).is_same(desk))

    def test_unkept(self):
        desk = full_desk()
        self.assertEqual({words[0] for words in UNKEPT}, set(FIRST))
        for words in UNKEPT:
            self.refused_unkept(desk, words, NAMED, "claim", words)

    def test_not_sound(self):
        desk = full_desk()
        self.assertEqual({words[0] for words in NOT_SOUND}, set(FIRST))
        for words in NOT_SOUND:
            self.refused(desk, BadClaim, {"thing": words}, "claim", words)

    def test_no_claims(self):
        desk = full_desk()
        for thing in NO_CLAIMS:
            self.refused(desk, BadClaim, {"thing": thing}, "claim", thing)
            self.refused(desk, NoClaim, {"thing": thing}, "release", thing)
        other = Desk()
        for words in KEPT:
            self.refused(other, BadClaim, {"thing": words}, "claim", words)
            self.refused(other, NoClaim, {"thing": words}, "release", words)
        for thing in (desk, (desk,), ("equal", desk, desk), ("sum", "four", (desk,)), ("step", "four", desk),
                      (desk, "four", "four")):
            for method, error in (("claim", BadClaim), ("release", NoClaim), ("put", BadName), ("drop", NoName)):
                before = self.state(desk)
                with self.assertRaises(error) as caught:
                    getattr(desk, method)(*(thing, FOUR)[:2 if method == "put" else 1])
                self.assertIs(caught.exception.thing, thing)
                self.assertEqual(self.state(desk), before)

    def test_near_claims(self):
        """Each value near a claim, against the words."""
        for words in (KEPT[0], KEPT[2], KEPT[4], KEPT[8], KEPT[10], KEPT[12], KEPT[15]):
            for thing in spoiled(words):
                desk = full_desk()
                expected = thing in KEPT + UNKEPT + NOT_SOUND or self.is_told_claim(thing)
                before = self.state(desk)
                try:
                    desk.claim(thing)
                except BadClaim as error:
                    self.assertIs(error.thing, thing)
                    self.assertEqual(self.state(desk), before)
                    self.assertTrue(not expected or told_judged(thing, NAMED) is None, thing)
                except Unkept as error:
                    self.assertTrue(expected)
                    self.assertNotEqual(error.certificate[0], FIRST[thing[0]])
                    self.assertTrue(is_right(thing, NAMED, error.certificate))
                else:
                    self.assertTrue(expected)
                    self.assertEqual(told_judged(thing, NAMED)[0], FIRST[thing[0]])
                    self.assertEqual(repr(desk.claims()), repr((thing,)))

    def is_told_claim(self, thing):
        """Point 11.3, word by word."""
        if not isinstance(thing, tuple) or not thing or not isinstance(thing[0], str) or thing[0] not in FIRST:
            return False
        kinds = {"equal": "nn", "times": "nnn", "sum": "nt", "stepping": "n", "step": "ni", "divisible": "nii",
                 "alike": "nni"}
        kind = kinds[thing[0]]
        if len(thing) != len(kind) + 1:
            return False
        for item, letter in zip(thing[1:], kind):
            if letter == "i" and type(item) is not int:
                return False
            if letter == "n" and (not isinstance(item, str) or item not in NAMED):
                return False
            if letter == "t":
                if not isinstance(item, tuple) or not 1 <= len(item) <= 12:
                    return False
                if not all(isinstance(name, str) and name in NAMED for name in item):
                    return False
        return True

    def test_release(self):
        desk = full_desk()
        for words in KEPT:
            desk.claim(words)
        for words in (KEPT[4], KEPT[0], KEPT[-1]):
            before = desk.claims()
            self.does(desk, "release", words)
            self.assertEqual(desk.claims(), tuple([other for other in before if other != words]))
            self.refused(desk, NoClaim, {"thing": words}, "release", words)
        self.does(desk, "claim", KEPT[0])
        self.assertEqual(desk.claims()[-1], KEPT[0])
        for thing in NO_CLAIMS:
            self.refused(desk, NoClaim, {"thing": thing}, "release", thing)

    def test_bools_are_no_integers(self):
        """True is equal to 1, but a value with it is no claim."""
        desk = full_desk()
        desk.put("ten", scaled(DELTA, (10, 1)))
        desk.claim(("divisible", "ten", 1, 2))
        for thing in (("divisible", "ten", True, 2), ("divisible", "ten", 1, True)):
            self.refused(desk, NoClaim, {"thing": thing}, "release", thing)
            self.refused(desk, BadClaim, {"thing": thing}, "claim", thing)
        self.does(desk, "release", ("divisible", "ten", 1, 2))

    def test_names_that_are_words(self):
        """A name may be a word of a claim; only its places count."""
        desk = Desk()
        desk.put("equal", FOUR)
        desk.put("four", JACOBI)
        desk.put("sum", SUMS[0])
        desk.put("stepping", ELEVEN)
        desk.claim(("equal", "four", "four"))
        desk.claim(("stepping", "stepping"))
        self.does(desk, "drop", "equal")
        self.refused(desk, Needed, {"claim": ("stepping", "stepping")}, "drop", "stepping")
        self.does(desk, "put", "equal", POLE)
        self.does(desk, "change", "equal", DELTA)
        desk.claim(("equal", "equal", "equal"))
        self.refused(desk, Needed, {"claim": ("equal", "equal", "equal")}, "drop", "equal")
        desk.claim(("sum", "sum", ("sum", "sum")))
        self.assertEqual(desk.text().split("\n")[-1], "sum sum sum sum")
        self.assertTrue(read_desk(desk.text()).is_same(desk))

    def test_change_of_named_ones(self):
        desk = full_desk()
        for words in KEPT:
            desk.claim(words)
        for name in NAMED:
            first = [words for words in KEPT if name in told_names(words)]
            if first:
                self.refused(desk, Needed, {"claim": first[0]}, "drop", name)
            for blended in list(NAMED.values()) + [scaled(NAMED[name], (2, 1)), scaled(NAMED[name], (1, 35))]:
                # Forms may not stand where far terms are asked for.
                if blended[0][0][0] == "form" and name not in ("four", "jacobi", "two", "eight", "first", "second",
                                                               "third"):
                    continue
                named = dict(NAMED)
                named[name] = blended
                wrong = [words for words in KEPT if (told_judged(words, named) or (None,))[0] != FIRST[words[0]]]
                if wrong:
                    self.refused_unkept(desk, wrong[0], named, "change", name, blended)
                else:
                    twin = desk.copied()
                    self.assertIsNone(twin.change(name, blended))
                    self.assertEqual(dict(twin.blends()), named)
                    self.assertEqual(twin.claims(), KEPT)

    def test_first_of_several_claims(self):
        """The first claim is the one that was taken up first, not the first one as Python sorts them."""
        for order in (("stepping", "b"), ("equal", "a", "b"), ("step", "b", 3)), (("step", "b", 3), ("equal", "a", "b"),
            ("stepping", "b")):
            desk = Desk()
            desk.put("a", ELEVEN)
            desk.put("b", ELEVEN)
            for words in order:
                desk.claim(words)
            self.refused(desk, Needed, {"claim": order[0]}, "drop", "b")
            self.refused_unkept(desk, order[0], {"a": ELEVEN, "b": POLE}, "change", "b", POLE)
            other = blend((product((1, 24)), 2))
            first = [words for words in order if words[0] != "step"][0]
            self.refused_unkept(desk, first, {"a": ELEVEN, "b": other}, "change", "b", other)
            desk.release(order[0])
            self.refused(desk, Needed, {"claim": order[1]}, "drop", "b")
        desk = Desk()
        desk.put("a", ELEVEN)
        desk.claim(("stepping", "a"))
        self.refused(desk, Unkept, {"claim": ("stepping", "a"), "certificate": None}, "change", "a", POLE)
        self.refused(desk, Unkept, {"claim": ("stepping", "a"), "certificate": ("first", 1)}, "change", "a",
                     scaled(ELEVEN, (2, 1)))


class UndoTest(DeskCase):
    def test_both_ends(self):
        desk = Desk()
        states = [self.state(desk)[:2]]
        deeds = [("put", "a", FOUR), ("put", "b", JACOBI), ("claim", ("equal", "a", "b")), ("change", "b", FOUR),
                 ("release", ("equal", "a", "b")), ("drop", "a"), ("put", "a", POLE)]
        for many, (method, *args) in enumerate(deeds):
            self.does(desk, method, *args)
            states.append(self.state(desk)[:2])
            self.assertEqual((desk.undoable(), desk.redoable()), (many + 1, 0))
            self.refused(desk, NothingToRedo, {}, "redo")
        for many in reversed(range(len(deeds))):
            self.does(desk, "undo")
            self.assertEqual(self.state(desk)[:4], states[many] + (many, len(deeds) - many))
        self.refused(desk, NothingToUndo, {}, "undo")
        for many in range(len(deeds)):
            self.does(desk, "redo")
            self.assertEqual(self.state(desk)[:4], states[many + 1] + (many + 1, len(deeds) - many - 1))
        self.refused(desk, NothingToRedo, {}, "redo")

    def test_a_deed_behind_an_undo(self):
        desk = Desk()
        desk.put("a", FOUR)
        desk.put("b", FOUR)
        desk.undo()
        self.refused(desk, BadName, {"thing": "B"}, "put", "B", FOUR)
        self.assertEqual((desk.undoable(), desk.redoable()), (1, 1))
        desk.put("c", DELTA)
        self.assertEqual((desk.undoable(), desk.redoable()), (2, 0))
        self.refused(desk, NothingToRedo, {}, "redo")
        desk.undo()
        desk.redo()
        self.assertEqual(desk.blends(), (("a", FOUR), ("c", DELTA)))

    def test_deeds_that_leave_the_same_standing(self):
        desk = Desk()
        desk.put("a", FOUR)
        desk.change("a", FOUR)
        self.assertEqual(desk.undoable(), 2)
        desk.undo()
        desk.change("a", FOUR)
        self.assertEqual((desk.undoable(), desk.redoable()), (2, 0))

    def test_long_rows_of_deeds(self):
        """Drawn deeds on several desks, against plain standings."""
        maker = random.Random(115)
        blends = [FOUR, JACOBI, TWO, scaled(JACOBI, (2, 1)), ELEVEN, EISEN, SMALL, DELTA, TWELVE, THETA, FIVE, POLE]
        names = ["a", "b", "c", "d", "sum"]
        counts = {}
        for _ in range(25):
            desks = [(Desk(), Plain())]
            for _ in range(60):
                at = maker.randrange(len(desks))
                desk, plain = desks[at]
                method, args = drawn_call(maker, names, blends, plain)
                if method == "copied":
                    desks.append((desk.copied(), plain.copied()))
                    continue
                expected = plain.told(method, *args)
                counts[(method, expected[0])] = counts.get((method, expected[0]), 0) + 1
                try:
                    got = ("done", getattr(desk, method)(*args))
                except Unkept as error:
                    got = ("Unkept", error.claim)
                    if error.certificate is not None:
                        self.assertNotEqual(error.certificate[0], FIRST[error.claim[0]])
                except TermError as error:
                    got = (error.__class__.__name__,) + tuple(vars(error).values())
                self.assertEqual(got, expected, (method, args))
                for desk, plain in desks:
                    self.assertEqual((desk.blends(), desk.claims()), plain.standing())
                    self.assertEqual((desk.undoable(), desk.redoable()),
                                     (plain.at, len(plain.standings) - plain.at - 1))
            for desk, plain in desks:
                self.assertEqual(desk.text(), told_desk_text(plain.standing()))
                again = read_desk(desk.text())
                self.assertTrue(again.is_same(desk))
                self.assertEqual((again.undoable(), again.redoable()), (0, 0))
                for words in desk.claims():
                    self.assertEqual(told_judged(words, dict(desk.blends()))[0], FIRST[words[0]])
        for kind in (("put", "done"), ("put", "NameTaken"), ("change", "done"), ("change", "Unkept"), ("drop", "done"),
                     ("drop", "Needed"), ("claim", "done"), ("claim", "Unkept"), ("claim", "BadClaim"),
                     ("release", "done"),
                     ("release", "NoClaim"), ("undo", "done"), ("redo", "done"), ("undo", "NothingToUndo"),
                     ("redo", "NothingToRedo")):
            self.assertGreater(counts.get(kind, 0), 4, kind)


class Plain:
    """A plain row of standings, each a pair of a dict and a list, and the place in it."""

    def __init__(self):
        self.standings = [({}, [])]
        self.at = 0

    def standing(self):
        named, claims = self.standings[self.at]
        return tuple(sorted(named.items())), tuple(claims)

    def copied(self):
        other = Plain()
        other.standings = [(dict(self.standings[self.at][0]), list(self.standings[self.at][1]))]
        return other

    def told(self, method, *args):
        """What the call does: a pair of "done" and the result, or the error's name and its thing."""
        named, claims = self.standings[self.at]
        if method in ("undo", "redo"):
            step = -1 if method == "undo" else 1
            if not 0 <= self.at + step < len(self.standings):
                return ("NothingToUndo",) if method == "undo" else ("NothingToRedo",)
            self.at += step
            return ("done", None)
        wrong, named, claims = self.deed(method, args, dict(named), list(claims))
        if wrong is not None:
            return wrong
        self.standings = self.standings[:self.at + 1] + [(named, claims)]
        self.at += 1
        return ("done", None)

    def deed(self, method, args, named, claims):
        """What is wrong with a deed, or None, and the names and claims behind it."""
        thing, wrong = args[0], None
        if method == "put" and thing in named:
            wrong = ("NameTaken", thing)
        elif method in ("change", "drop") and thing not in named:
            wrong = ("NoName", thing)
        elif method == "drop":
            needing = [words for words in claims if thing in told_names(words)]
            wrong = ("Needed", needing[0]) if needing else None
            if not needing:
                del named[thing]
        elif method in ("put", "change"):
            named[thing] = args[1]
            lost = [words for words in claims if (told_judged(words, named) or (None,))[0] != FIRST[words[0]]]
            wrong = ("Unkept", lost[0]) if lost else None
        elif method == "release":
            wrong = None if thing in claims else ("NoClaim", thing)
            claims = [words for words in claims if words != thing]
        else:
            sound = all(name in named for name in told_names(thing)) and thing not in claims
            certificate = told_judged(thing, named) if sound else None
            if certificate is None:
                wrong = ("BadClaim", thing)
            elif certificate[0] != FIRST[thing[0]]:
                wrong = ("Unkept", thing)
            claims.append(thing)
        return wrong, named, claims


def drawn_call(maker, names, blends, plain):
    """A call by chance, often one that does something."""
    method = maker.choice(("put", "put", "change", "change", "drop", "claim", "claim", "claim", "claim", "release",
                           "undo", "undo",
                           "redo", "copied"))
    name, taken = maker.choice(names), plain.standing()[1]
    if method in ("undo", "redo", "copied"):
        return method, ()
    if method == "drop":
        return method, (name,)
    if method in ("put", "change"):
        return method, (name, maker.choice(blends))
    if method == "release" and taken and maker.random() < 0.7:
        return method, (maker.choice(taken),)
    named, claims = plain.standings[plain.at]
    words = drawn_claim(maker, names)
    for _ in range(maker.choice((0, 9))):
        # Claims that are kept are rare among those drawn, so some more are drawn.
        if words not in claims and all(name in named for name in told_names(words)):
            if (told_judged(words, named) or (None,))[0] == FIRST[words[0]]:
                break
        words = drawn_claim(maker, names)
    return method, (words,)


def drawn_claim(maker, names):
    name, other = maker.choice(names), maker.choice(names)
    return maker.choice((
        ("equal", name, other), ("times", name, other, name),
        ("sum", name, tuple([maker.choice(names) for _ in range(maker.randint(1, 3))])),
        ("stepping", name), ("step", name, maker.choice((2, 3, 4))),
        ("divisible", name, maker.choice((1, 5)), maker.choice((2, 5))),
        ("alike", name, other, maker.choice((2, 5, 691)))))


class ReadDeskTest(DeskCase):
    LINES = ("delta = 1/1 product 1^24", "eleven = 1/1 product 1^2 11^2", "first = 1/1 sum 4 1 1 1",
             "four = 1/1 sum 4 1 1 1",
             "twelve = 1/1 sum 12 1 1 1", "equal first four", "sum first four four", "stepping delta", "step eleven 97",
             "divisible delta 2 8", "alike delta twelve 691")

    def wrong(self, at, lines):
        self.refuses(BadText, {"at": at}, read_desk, "\n".join(lines))

    def test_round(self):
        desk = read_desk("\n".join(self.LINES))
        self.assertEqual(self.state(desk)[2:], (0, 0, "\n".join(self.LINES)))
        self.assertEqual(desk.claims(), (("equal", "first", "four"), ("sum", "first", ("four", "four")),
                                         ("stepping", "delta"),
                                         ("step", "eleven", 97), ("divisible", "delta", 2, 8),
                                         ("alike", "delta", "twelve", 691)))
        self.assertEqual(read_desk(text="").text(), "")
        self.assertTrue(read_desk("").is_same(Desk()))
        desk.release(("stepping", "delta"))
        self.assertEqual(desk.undoable(), 1)
        for many in range(1, len(self.LINES) + 1):
            self.assertEqual(read_desk("\n".join(self.LINES[:many])).text(), "\n".join(self.LINES[:many]))

    def test_no_texts(self):
        for thing in NO_INTEGERS + (0, ("a = 1/1 sum 4 1 1 1",), list(self.LINES), Desk):
            if not isinstance(thing, str):
                self.refuses(BadText, {"at": 0}, read_desk, thing)
        for text in (" ", "\n", "\n\n", "a", "a = ", " = ", "=", "a =", "a=1/1 sum 4 1 1 1", "x" * 2000, " = " * 600,
                     "\n" * 2000):
            self.refuses(BadText, {"at": 1}, read_desk, text)

    def test_line_feeds(self):
        lines = list(self.LINES)
        self.wrong(len(lines) + 1, lines + [""])
        self.wrong(1, [""] + lines)
        for at in range(1, len(lines)):
            self.wrong(at + 1, lines[:at] + [""] + lines[at:])
        self.wrong(12, lines + ["", ""])

    def test_lines_of_blends(self):
        lines = list(self.LINES)
        for line in ("e = 1/1 sum 4 1 1", "e  = 1/1 sum 4 1 1 1", "e =  1/1 sum 4 1 1 1", " e = 1/1 sum 4 1 1 1",
                     "e = 1/1 sum 4 1 1 1 ",
                     "E = 1/1 sum 4 1 1 1", "e1 = 1/1 sum 4 1 1 1", " = 1/1 sum 4 1 1 1",
                     "e" * 21 + " = 1/1 sum 4 1 1 1",
                     "e = e = 1/1 sum 4 1 1 1", "e = 2/2 sum 4 1 1 1", "e = first", "e f = 1/1 sum 4 1 1 1",
                     "delta = 1/1 sum 4 1 1 1",
                     "d = 1/1 sum 4 1 1 1", "a = 1/1 sum 4 1 1 1", "e = ", "equal first = four"):
            self.wrong(2, lines[:1] + [line] + lines[1:])
            self.wrong(2, lines[:1] + [line])
            self.wrong(7, lines[:6] + [line] + lines[6:])
        self.assertEqual(len(read_desk("\n".join(["a = 1/1 product", "e" * 20 + " = 1/1 product",
                                                  "f = 1/1 product"])).blends()), 3)
        self.wrong(7, lines[:6] + ["zero = 1/1 sum 4 1 1 1"])
        self.wrong(2, ["b = 1/1 product", "a = 1/1 product"])
        self.wrong(2, ["b = 1/1 product", "b = 1/1 product"])
        self.wrong(3, ["a = 1/1 product", "b = 1/1 product", "b = 2/1 product"])
        self.wrong(3, ["a = 1/1 product", "c = 1/1 product", "b = 2/1 product"])

    def test_lines_of_claims(self):
        lines = list(self.LINES)
        for line in ("equal first", "equal first four four", "equal first  four", " equal first four",
                     "equal first four ", "Equal first four",
                     "equal first none", "first four", "times delta delta", "sum first", "sum", "sum none four",
                     "sum first none",
                     "sum first" + " four" * 13, "stepping", "stepping first", "stepping delta delta", "stepping none",
                     "step eleven",
                     "step eleven 4", "step eleven +2", "step eleven 02", "step eleven 2 ", "step eleven two",
                     "step 2 eleven", "step eleven -2",
                     "divisible delta 2", "divisible delta 2 8 8", "divisible delta 02 8", "divisible delta 2 16",
                     "divisible delta 0 8",
                     "divisible twelve 2 5", "alike delta twelve", "alike delta twelve 5", "alike delta twelve 11",
                     "alike delta twelve 0691",
                     "alike delta first 691", "equal delta twelve", "equal delta first", "equal\tfirst four", "", " ",
                     "none", "equal=first four",
                     "('equal', 'first', 'four')", "step eleven True", "divisible delta 2 " + "8" * 1900,
                     "sum first (four,)"):
            self.wrong(6, lines[:5] + [line] + lines[5:])
            self.wrong(8, lines[:7] + [line])
        for words in ("sum first" + " four" * 12, "equal four four", "step delta 89", "divisible delta 4 64",
                      "times delta delta delta"):
            if words[:5] != "times":
                self.assertEqual(read_desk("\n".join(lines[:5] + [words])).text(), "\n".join(lines[:5] + [words]))
            else:
                self.wrong(6, lines[:5] + [words])

    def test_repeated_claims(self):
        lines = list(self.LINES)
        for at in range(5, len(lines)):
            self.wrong(at + 2, lines[:at + 1] + [lines[at]] + lines[at + 1:])
            self.wrong(len(lines) + 1, lines + [lines[at]])

    def test_first_wrong_line(self):
        lines = list(self.LINES)
        self.wrong(3, lines[:2] + ["first = 1/1 sum 4 1"] + lines[3:] + ["nothing"])
        self.wrong(6, lines[:5] + ["equal delta twelve", "x = 1/1 product"])
        self.wrong(6, lines[:5] + ["stepping twelve", "stepping twelve"])
        self.wrong(1, ["x", "y"])
        self.wrong(2, ["a = 1/1 product", "stepping a", "b = 1/1 product"])
        # A claim behind a changed row is wrong where it stands.
        self.wrong(6, [lines[0], lines[1], "first = 2/1 sum 4 1 1 1"] + lines[3:])

    def test_times(self):
        lines = ["eight = 480/1 sum 8 1 1 1", "four = 240/1 sum 4 1 1 1", "times four four eight"]
        self.assertEqual(read_desk("\n".join(lines)).claims(), (("times", "four", "four", "eight"),))
        self.wrong(3, lines[:2] + ["times four eight four"])
        self.wrong(3, lines[:2] + ["times four four"])
        self.wrong(3, ["eight = 240/1 sum 8 1 1 1"] + lines[1:])
