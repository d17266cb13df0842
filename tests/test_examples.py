import unittest

from tests.examples import SECTIONS, run_examples


class Examples(unittest.TestCase):

    def test_examples_of_the_document(self):
        names = {}
        for text in SECTIONS:
            with self.subTest(text.strip().split("\n")[0]):
                self.assertEqual(run_examples(text, names), [])

    def test_a_wrong_example_is_found(self):
        self.assertEqual(len(run_examples(">>> 1 + 1\n3\n>>> 2\n2\n>>> True\n1", {})), 2)
        text = '>>> from linestrikes.values import Values\n>>> Values("x")\nraises BadValues("o")'
        self.assertEqual(len(run_examples(text, {})), 1)


if __name__ == "__main__":
    unittest.main()
