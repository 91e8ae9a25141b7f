"""Point 11.1: texts of blends."""
import random

from firstterms.errors import BadBlend, BadText
from firstterms.texts import blend_text, read_blend
from tests.helpers import NO_INTEGERS, CallCase
from tests.pool import GREAT, PIECES, blend, form, product, some_blends, told_blend_facts, total
from tests.test_blends import BLENDS, EIGHT, NO_BLENDS, ONE
from tests.test_forms import E8, THREE, diagonal

# Texts written out by hand, each with its blend.
WRITTEN = (
    ("240/1 sum 4 1 1 1", ((("sum", 4, 1, 1, 1), (240, 1)),)),
    ("1/1 product 1^-1 5^5", ((("product", ((1, -1), (5, 5))), (1, 1)),)),
    ("1/6 form 2,1;1,2 + -1/1 sum 1 -3 1 1", ((("form", ((2, 1), (1, 2))), (1, 6)), (("sum", 1, -3, 1, 1), (-1, 1)))),
    ("1/1 product", ((("product", ()), (1, 1)),)), ("-7/3 product", ((("product", ()), (-7, 3)),)),
    ("1/1 product 1^24", ((("product", ((1, 24),)), (1, 1)),)),
    ("1/1 product + -3/4 product 1^24 2^-24", ((("product", ()), (1, 1)), (("product", ((1, 24), (2, -24))), (-3, 4)))),
    ("1/1 form 2,0;0,2", ((("form", ((2, 0), (0, 2))), (1, 1)),)),
    ("2/1 form 4,-1;-1,6", ((("form", ((4, -1), (-1, 6))), (2, 1)),)),
    ("1/1 form 2,0,0,1;0,2,1,0;0,1,12,0;1,0,0,12",
     ((("form", ((2, 0, 0, 1), (0, 2, 1, 0), (0, 1, 12, 0), (1, 0, 0, 12))), (1, 1)),)),
    ("1/1 sum 2 5 1 80", ((("sum", 2, 5, 1, 80), (1, 1)),)),
    ("16/1 sum 4 1 1 1 + -32/1 sum 4 1 1 2 + 256/1 sum 4 1 1 4",
     tuple([(("sum", 4, 1, 1, t), (top, 1)) for t, top in ((1, 16), (2, -32), (4, 256))])),
)
WRONG = (
    "", " ", "\n", "1/1", "1/1 ", "sum 4 1 1 1", "1 sum 4 1 1 1", "/1 sum 4 1 1 1", "1/ sum 4 1 1 1",
    "1/1/1 sum 4 1 1 1", "0/1 sum 4 1 1 1", "1/0 sum 4 1 1 1", "1/-1 sum 4 1 1 1", "2/2 sum 4 1 1 1", "2/4 sum 4 1 1 1",
    "0/0 sum 4 1 1 1", "+1/1 sum 4 1 1 1", "01/1 sum 4 1 1 1", "1/01 sum 4 1 1 1", "-0/1 sum 4 1 1 1",
    "--1/1 sum 4 1 1 1", "1.0/1 sum 4 1 1 1", "1/1  sum 4 1 1 1", " 1/1 sum 4 1 1 1", "1/1 sum 4 1 1 1 ",
    "1/1 sum  4 1 1 1", "1/1 sum 4 1 1  1", "1/1 sum 4 1 1 1\n", "\n1/1 sum 4 1 1 1", "1/1\nsum 4 1 1 1",
    "1/1 sum 4 1 1", "1/1 sum 4 1 1 1 1", "1/1 sum", "1/1 sum ", "1/1 Sum 4 1 1 1", "1/1 sums 4 1 1 1",
    "1/1 sum 4 1 1 +1", "1/1 sum 04 1 1 1", "1/1 sum 4 1 1 01", "1/1 sum 4 1 1 1_0", "1/1 sum 4 1 -1 1",
    "1/1 sum 2 1 1 1", "1/1 sum 4 1 1 401", "1/1 sum 25 1 -3 1", "1/1 sum 4 2 2 1", "1/1 sum 4,1,1,1",
    "1/1 sum 4 1 1 x", "1/1 sum 4 1 1 1 +", "1/1 sum 4 1 1 1 + ", " + 1/1 sum 4 1 1 1",
    "1/1 sum 4 1 1 1 +1/1 sum 4 1 1 2", "1/1 sum 4 1 1 1+ 1/1 sum 4 1 1 2", "1/1 sum 4 1 1 1 +  1/1 sum 4 1 1 2",
    "1/1 sum 4 1 1 1  + 1/1 sum 4 1 1 2", "1/1 sum 4 1 1 1 + + 1/1 sum 4 1 1 2", "1/1 sum 4 1 1 2 + 1/1 sum 4 1 1 1",
    "1/1 sum 4 1 1 1 + 1/1 sum 4 1 1 1", "1/1 sum 4 1 1 1 + 1/1 sum 6 1 1 1", "1/1 sum 2 5 1 1 + 1/1 sum 2 1 1 2",
    "1/1 sum 4 1 1 1 - 1/1 sum 4 1 1 2", "1/1 product ", "1/1 product  1^24", "1/1 product 1^24 ",
    "1/1 product 1^24  2^24", "1/1 product 1^", "1/1 product ^24", "1/1 product 1^2^4", "1/1 product 1 24",
    "1/1 product 1*24", "1/1 product 1^+24", "1/1 product 01^24", "1/1 product 1^024", "1/1 product 1^24 1^24",
    "1/1 product 2^24 1^24", "1/1 product 1^0", "1/1 product 1^-0", "1/1 product 1^49", "1/1 product 0^24",
    "1/1 product -1^24", "1/1 product 401^24", "1/1 product 1^8", "1/1 product 1^24,2^24", "1/1 Product 1^24",
    "1/1 product1^24", "1/1 form", "1/1 form ", "1/1 form 2", "1/1 form 2,0;0,2;", "1/1 form ;2,0;0,2",
    "1/1 form 2,0;0,2 ", "1/1 form 2,0; 0,2", "1/1 form 2, 0;0,2", "1/1 form 2,0,;0,2", "1/1 form 2,0;;0,2",
    "1/1 form 2,0:0,2", "1/1 form 2,0;0", "1/1 form 2,1;0,2", "1/1 form 1,0;0,2", "1/1 form 2,2;2,2",
    "1/1 form 2,+0;0,2", "1/1 form 2,-0;-0,2", "1/1 form 2,00;00,2", "1/1 form 102,0;0,2", "1/1 form 2,0,0;0,2,0;0,0,2",
    "1/1 form 16,0;0,100", "1/1 form 2,0;0,2 2,0;0,2", "1/1 forms 2,0;0,2", "1/1 form ((2, 0), (0, 2))",
    "((('sum', 4, 1, 1, 1), (1, 1)),)", "None", "1/1 none 4", "1/1 equal", "x" * 2000, "1/1 sum 4 1 1 " + "1" * 1900,
    "9" * 2000 + "/1 sum 4 1 1", "1/1 sum 4 1 1 1 + " * 90, " + " * 600, "/" * 2000, "^" * 2000, ";" * 2000,
    "1/1 form " + ";" * 500, "1/1 product" + " 1^1" * 400,
)


def told_text(blended):
    """Point 11.1, word by word."""
    parts = []
    for piece, (top, bottom) in blended:
        text = str(top) + "/" + str(bottom) + " " + piece[0]
        if piece[0] == "product":
            for d, r in piece[1]:
                text += " " + str(d) + "^" + str(r)
        elif piece[0] == "sum":
            for item in piece[1:]:
                text += " " + str(item)
        else:
            rows = []
            for row in piece[1]:
                rows.append(",".join(map(str, row)))
            text += " " + ";".join(rows)
        parts.append(text)
    return " + ".join(parts)


class TextTest(CallCase):
    def test_examples(self):
        for text, blended in WRITTEN:
            self.gives(text, blend_text, blended)
            self.gives(blended, read_blend, text)

    def test_all_kinds_of_pieces(self):
        for piece in PIECES + GREAT:
            for number in (ONE, (-3, 7), (10 ** 99 + 7, 10 ** 99)):
                blended = ((piece, number),)
                text = told_text(blended)
                self.gives(text, blend_text, blended)
                self.gives(blended, read_blend, text)

    def test_by_chance(self):
        for blended in BLENDS + some_blends(random.Random(111)) + [EIGHT]:
            text = told_text(blended)
            self.gives(text, blend_text, blended)
            self.gives(blended, read_blend, text)

    def test_spoiled_texts(self):
        """A text that is read is the text of the blend that was read."""
        maker = random.Random(112)
        kinds = {True: 0, False: 0}
        signs = "0123456789 -+/^;,.\nabcsumprodtf"
        for blended in BLENDS[::3] + [blended for text, blended in WRITTEN] * 3:
            text = told_text(blended)
            for _ in range(25):
                at = maker.randint(0, len(text))
                spoiled = maker.choice((text[:at] + maker.choice(signs) + text[at:], text[:at] + text[at + 1:],
                                        text[:at] + maker.choice(signs) + text[at + 1:]))
                try:
                    got = read_blend(spoiled)
                except BadText as error:
                    self.assertEqual(error.at, 1)
                    kinds[False] += 1
                else:
                    self.assertIsNotNone(told_blend_facts(got))
                    self.assertEqual(told_text(got), spoiled)
                    kinds[True] += 1
        self.assertGreater(min(kinds.values()), 30)

    def test_no_texts(self):
        for text in WRONG:
            self.refuses(BadText, {"at": 1}, read_blend, text)
        for thing in NO_INTEGERS + (0, 1, -5, 10 ** 99, ("1/1 sum 4 1 1 1",), ["1/1 sum 4 1 1 1"],
                                    {"1/1 sum 4 1 1 1": 1},
                                    WRITTEN[0][1]):
            self.refuses(BadText, {"at": 1 if isinstance(thing, str) else 0}, read_blend, thing)

    def test_no_blends(self):
        for thing in NO_BLENDS:
            self.refuses_thing(BadBlend, thing, blend_text, thing)

    def test_greatest_forms(self):
        for table in (E8, THREE, diagonal(8, 8, 10, 100), diagonal(4, 4, 4, 4, 4, 4, 4, 4)):
            blended = blend((form(table), (-1, 3)))
            self.gives(blended, read_blend, told_text(blended))
        eight = blend(*[(product((d, 24)), 1) for d in (1, 2, 3, 4, 5, 6, 10, 12)], )
        self.gives(eight, read_blend, told_text(eight))
        self.refuses(BadText, {"at": 1}, read_blend, told_text(blend(*[(total(4, 1, 1, t), 1) for t in (1, 2, 3, 4, 5,
            6, 10, 12, 15)])))
