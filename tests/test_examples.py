"""The examples of the document, and those of README.md."""

import doctest
import pathlib
import unittest

from tests import examples, more_examples

SECTIONS = {**examples.SECTIONS, **more_examples.SECTIONS}

README = pathlib.Path(__file__).parent.parent / "README.md"


class Examples(unittest.TestCase):
    def shows(self, name, text):
        test = doctest.DocTestParser().get_doctest(text, {}, name, None, None)
        told = []
        result = doctest.DocTestRunner(verbose=False).run(test, out=told.append)
        self.assertGreater(result.attempted, 0)
        self.assertEqual(result.failed, 0, "".join(told))

    def test_readme(self):
        self.shows("readme", README.read_text("ascii").replace("```", ""))

    def test_sections(self):
        self.assertEqual(sorted(SECTIONS), list(range(4, 19)))
        for number in SECTIONS:
            with self.subTest(section=number):
                self.shows(f"section {number}", SECTIONS[number])
