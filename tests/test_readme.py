"""The examples of README.md hold."""
import doctest
import pathlib
import unittest

README = pathlib.Path(__file__).resolve().parent.parent / "README.md"


class Examples(unittest.TestCase):
    def test_examples(self):
        text = README.read_text().replace("```", "")
        test = doctest.DocTestParser().get_doctest(text, {}, "README.md", "README.md", 0)
        self.assertGreater(len(test.examples), 5)
        told = []
        self.assertEqual(doctest.DocTestRunner().run(test, out=told.append).failed, 0, "".join(told))
