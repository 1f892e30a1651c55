"""Runs the document's own examples."""

import doctest
import unittest

from tests.examples import ALL


class TestExamples(unittest.TestCase):

    def test_examples(self):
        for name, text in ALL.items():
            with self.subTest(name):
                test = doctest.DocTestParser().get_doctest(text, {}, name, name, 0)
                self.assertGreater(len(test.examples), 1)
                said = []
                results = doctest.DocTestRunner(verbose=False).run(test, out=said.append)
                self.assertEqual(results.failed, 0, "".join(said))


if __name__ == "__main__":
    unittest.main()
