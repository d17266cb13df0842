import inspect
import pathlib
import tempfile
import unittest

from tests.language import FOLDER, faults

BAD_FILES = {
    "import os\n": "Import",
    "from linestrikes.values import numbers_of\n": "L2",
    "def f(xs):\n    for x in xs:\n        xs.append(x)\n": "L23",
    "def f(xs):\n    return {x for x in xs}\n": "SetComp",
    "def f(xs):\n    return set(xs)\n": "L24",
    "def f(xs):\n    return any(x for x in xs)\n": "GeneratorExp",
    "def f(xs):\n    return lambda x: x\n": "Lambda",
    "def f(id):\n    return id\n": "L15",
    "def f(x):\n    return 1 / x\n": "Div",
    "def f(x):\n    return '{} %'\n": "L27",
    "def f(x):\n    return x.casefold()\n": "L25",
    "def f(x):\n    yield x\n\n\ndef g(x):\n    y = f(x)\n    return y\n": "L23",
    "class C:\n    def __hash__(self):\n        return 1\n": "L5",
    "class C:\n    def __getitem__(self, at):\n        return at\n": "L5",
    "class C:\n    def many(self):\n        self.many = 1\n": "L18",
    "def f(x):\n    return x is 3\n": "L20",
    "def f(x):\n    global y\n": "Global",
    "X = f(3)\n": "L3",
    "def f(x):\n" + "    x = 1\n" * 40: "L10",
    "X = '" + "x" * 120 + "'\n": "L10",
    "def f(x):\n    print(x)\n": "L8",
}


class Language(unittest.TestCase):

    def test_the_package_keeps_to_the_rules(self):
        self.assertEqual(faults(), [])

    def test_the_package_is_one_folder_with_an_init(self):
        self.assertTrue((FOLDER / "__init__.py").is_file())
        self.assertEqual([path.name for path in FOLDER.iterdir() if path.is_dir() and path.name != "__pycache__"], [])

    def test_faults_are_found(self):
        for text, rule in BAD_FILES.items():
            with self.subTest(rule), tempfile.TemporaryDirectory() as name:
                folder = pathlib.Path(name)
                (folder / "bad.py").write_text(text)
                self.assertTrue(any(rule in fault for fault in faults(folder)), faults(folder))


class Interface(unittest.TestCase):
    """Each name stands in the file under which the interface lists it, each method in its class itself."""

    def test_methods_stand_in_their_classes(self):
        told = {
            ("values", "Values"): "__init__ __len__ __contains__ __eq__ cell numbered full empty each_cell renamed",
            ("values", "Cell"): "is_sure __and__ __or__ __sub__ __xor__ __invert__ within __eq__ __contains__ __len__ "
                                "__bool__ __iter__ __str__",
            ("lines", "Narrower"): "narrowed",
            ("lines", "Line"): "__init__ free sure read cells solution many open_places __len__ __getitem__ __setitem__ "
                               "__iter__ __contains__ words __and__ __or__ within __iand__ __neg__ copy renamed __eq__ "
                               "__str__ guess guessed narrowed",
            ("clues", "Clue"): "__len__ __call__ state __contains__ __and__ __or__ __sub__ __xor__ __invert__ __neg__ "
                               "__eq__ within __bool__ first count words renamed",
            ("clues", "Machine"): "__init__",
            ("clues", "Marked"): "marks",
            ("kinds", "Runs"): "__init__", ("kinds", "Few"): "__init__", ("kinds", "Modulo"): "__init__",
            ("kinds", "Neighbours"): "__init__", ("kinds", "Ends"): "__init__", ("kinds", "Listed"): "__init__",
            ("kinds", "Every"): "__init__", ("kinds", "Never"): "__init__",
            ("rules", "Rule"): "__init__ __len__ fits hits places __neg__ renamed __eq__ __str__ read",
            ("strikers", "Striker"): "is_stable __call__ strikes rounds narrowed",
            ("books", "Book"): "__init__ of rules __len__ __getitem__ __contains__ __iter__ __eq__ __add__ __sub__ __or__ "
                               "__neg__ renamed",
            ("trails", "Trail"): "__init__",
            ("supports", "Left"): "__init__ __bool__",
            ("sound", "Judgement"): "__bool__ __eq__ paper", ("sound", "Shown"): "__bool__",
            ("sound", "Sound"): "__init__", ("sound", "Unsound"): "__init__",
            ("complete", "Complete"): "__init__", ("complete", "Incomplete"): "__init__", ("complete", "Exact"): "__init__",
            ("compare", "Stronger"): "__init__", ("compare", "Parted"): "__init__",
            ("best", "Best"): "__init__ lets strikes __neg__ __eq__", ("givens", "Givens"): "__init__ __len__ __contains__",
            ("guess", "Search"): "__init__ words taken_back",
            ("desk", "Desk"): "__init__ __call__ say run line_copy",
        }
        for (stem, name), methods in told.items():
            module = __import__(f"linestrikes.{stem}", fromlist=[name])
            made = getattr(module, name)
            self.assertEqual(made.__module__, f"linestrikes.{stem}")
            for method in methods.split():
                self.assertIn(method, vars(made), name)

    def test_functions_stand_in_their_files(self):
        """Each with its parameters; those behind a star are passed by name alone."""
        told = {
            "trails": ["trail(book, line)"],
            "check_trails": ["shows_left(book, line, strikes, left)", "shows_clash(book, line, strikes)"],
            "stable": ["stable_lines(striker, line, *, most=4000)", "join(lines)"],
            "supports": ["count_words(clue, line)", "right_words(clue, line)", "left_by(clue, line)",
                         "barring(clue, line, place=None, value=None)", "judged_left(clue, line)"],
            "check_supports": ["shows_barred(clue, line, sets, place=None, value=None)",
                               "shows_left_by(clue, line, left, words, barred)"],
            "sound": ["judge_sound(book, clue)", "is_sound_rule(rule, clue)"],
            "check_sound": ["shows_sound(book, clue, thing)", "shows_unsound(book, clue, thing)"],
            "complete": ["judge_complete(striker, clue, *, most=4000)", "judge_exact(striker, clue, *, most=4000)"],
            "check_complete": ["shows_complete(striker, clue, thing)", "shows_incomplete(striker, clue, thing)",
                               "shows_exact(striker, clue, thing)"],
            "compare": ["judge_stronger(one, other, *, most=4000)", "parting(one, other, *, most=4000)",
                        "alike(one, other, *, most=4000)", "needless(book)", "trimmed(book)", "keepers(book)"],
            "check_compare": ["shows_stronger(one, other, thing)", "shows_parted(one, other, thing)",
                              "shows_trimmed(book, rows, lines)"],
            "best": ["factors(clue, cells, *, left=False, right=False)"],
            "widths": ["verdicts(clue, most_width=4, *, most=4000)", "least_width(clue, most_width=4, *, most=4000)"],
            "givens": ["asked(values, word, places)", "givens(striker, word)"],
            "check_givens": ["shows_givens(striker, word, places, lines)"],
            "guess": ["probed(striker, line)"],
            "texts": ["write_line(line)", "write_book(book)", "write_clue(clue)", "write_trail(values, strikes, left)"],
            "reader": ["read_line(text)", "read_book(text)", "read_clue(text)", "read_trail(text)", "read(text)"],
        }
        for stem, headings in told.items():
            for heading in headings:
                name = heading.partition("(")[0]
                found = getattr(__import__(f"linestrikes.{stem}", fromlist=[name]), name)
                self.assertEqual(found.__module__, f"linestrikes.{stem}")
                self.assertEqual(name + str(inspect.signature(found)), heading)


if __name__ == "__main__":
    unittest.main()
