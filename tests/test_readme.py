"""The examples in README.md give what stands there."""
import doctest
import pathlib
import unittest

README = pathlib.Path(__file__).resolve().parent.parent / "README.md"


class ReadmeTest(unittest.TestCase):
    def test_examples(self):
        text = README.read_text().replace("```", "")
        found = doctest.DocTestParser().get_doctest(text, {}, "README.md", str(README), 0)
        self.assertGreater(len(found.examples), 10)
        told = []
        doctest.DocTestRunner(verbose=False).run(found, out=told.append)
        self.assertEqual(told, [])
