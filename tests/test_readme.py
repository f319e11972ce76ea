"""Tests of README.md: each example gives what stands there."""

import doctest
import os
import unittest

README = os.path.join(os.path.dirname(os.path.dirname(os.path.abspath(__file__))), "README.md")


class ReadmeTest(unittest.TestCase):
    def test_examples(self):
        with open(README, encoding="utf-8") as file:
            text = file.read()
        test = doctest.DocTestParser().get_doctest(text, {}, "README.md", README, 0)
        told = []
        failed, tried = doctest.DocTestRunner(verbose=False).run(test, out=told.append)
        self.assertEqual(failed, 0, "".join(told))
        self.assertGreater(tried, 10)


if __name__ == "__main__":
    unittest.main()
