import pathlib
import unittest

from tests.examples import SECTIONS, run_examples


class Examples(unittest.TestCase):

    def test_examples_of_the_document(self):
        names = {}
        for text in SECTIONS:
            with self.subTest(text.strip().split("\n")[0]):
                self.assertEqual(run_examples(text, names), [])

    def test_no_example_of_the_document_is_left_out(self):
        path = pathlib.Path(__file__).resolve().parent.parent.parent / "shared" / "DOC.md"
        if not path.is_file():
            self.skipTest("the document is not here")
        blocks = [block.partition("\n")[2].strip() for block in path.read_text(encoding="utf-8").split("```")[1::2]]
        self.assertEqual([block for block in blocks if ">>> " in block], [text.strip() for text in SECTIONS])

    def test_examples_of_the_readme(self):
        text = (pathlib.Path(__file__).resolve().parent.parent / "README.md").read_text(encoding="utf-8")
        blocks = [block.partition("\n")[2] for block in text.split("```")[1::2]]
        names = {}
        many = 0
        for block in blocks:
            if block.startswith(">>> "):
                self.assertEqual(run_examples(block, names), [])
                many += 1
        self.assertEqual(many, 4)

    def test_a_wrong_example_is_found(self):
        self.assertEqual(len(run_examples(">>> 1 + 1\n3\n>>> 2\n2\n>>> True\n1", {})), 2)
        text = '>>> from linestrikes.values import Values\n>>> Values("x")\nraises BadValues("o")'
        self.assertEqual(len(run_examples(text, {})), 1)


if __name__ == "__main__":
    unittest.main()
