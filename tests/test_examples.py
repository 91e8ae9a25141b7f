"""The examples of the document, as they are written there."""
import pathlib
import re
import unittest

EXAMPLES = pathlib.Path(__file__).resolve().parent / "examples.txt"
CALL = re.compile(r"^raises (\w+)\((.*)\)$")


def parts():
    """Each part's heading, and its pairs of a statement and what stands behind it."""
    found = []
    for line in EXAMPLES.read_text().split("\n"):
        if line.startswith("# "):
            found.append((line, []))
        elif line.startswith(">>> "):
            found[-1][1].append((line[4:], []))
        elif line:
            found[-1][1][-1][1].append(line)
    return found


class ExampleTest(unittest.TestCase):
    def check(self, statement, expected, names):
        if not expected:
            exec(statement, names)
            return
        raised = CALL.match(expected[0])
        if raised is None:
            self.assertEqual(repr(eval(statement, names)), expected[0], statement)
            return
        with self.assertRaises(Exception) as caught:
            eval(statement, names)
        self.assertEqual(caught.exception.__class__.__name__, raised.group(1))
        self.assertEqual(repr(vars(caught.exception)), repr(eval("dict(" + raised.group(2) + ")")))

    def test_all_parts(self):
        count = 0
        for heading, statements in parts():
            names = {}
            for statement, expected in statements:
                with self.subTest(part=heading, statement=statement):
                    self.assertLessEqual(len(expected), 1)
                    self.check(statement, expected, names)
                    count += 1
        self.assertEqual(len(parts()), 11)
        self.assertGreater(count, 70)
