"""The examples in README.md."""

import doctest
import os
import unittest

README = os.path.join(os.path.dirname(os.path.dirname(os.path.abspath(__file__))), "README.md")


class ReadmeTest(unittest.TestCase):
    def test_examples(self):
        with open(README, encoding="utf-8") as file:
            examples = doctest.DocTestParser().get_doctest(file.read().replace("```", ""), {}, "README.md", README, 0)
        self.assertGreater(len(examples.examples), 8)
        self.assertEqual(doctest.DocTestRunner(verbose=False).run(examples).failed, 0)
