import pathlib
import tempfile
import unittest

from tests.forms import form_faults

BASES = "class A:\n    def __init__(self, x):\n        self.x = x\n\n\nclass B(A):\n    pass\n\n\n"
HELPED = "class A:\n    def __neg__(self):\n        return helped(self.rows)\n\n\ndef helped(rows):\n"

BAD_FILES = {
    BASES + "class C(B):\n    def __init__(self):\n        A.__init__(self, 1)\n": "L28",
    BASES + "class C(B):\n    def __init__(self, x):\n        B.__init__(x, 1)\n": "L28",
    HELPED + "    row = [x for row in rows for x in row]\n    row.append(1)\n    return row\n": "row is changed",
    HELPED + "    rows.append(1)\n    return rows\n": "rows is changed",
    HELPED + "    found = rows\n    found[0] = 1\n    return found\n": "found is changed",
    HELPED + "    many = 0\n    many |= 1\n    return many\n": "this sign",
    HELPED + "    many = 0\n    many += len(rows)\n    return many\n": "no literal",
    HELPED + "    rows.many = 1\n    return rows\n": "an attribute",
    "class A:\n    @property\n    def many(self):\n        self.rows[0] = 1\n        return 1\n": "self.rows is changed",
}

GOOD_FILES = [
    BASES + "class C(B):\n    def __init__(self):\n        B.__init__(self, 1)\n",
    HELPED + "    found = [x for row in rows for x in row]\n    found.append(1)\n    return found\n",
    HELPED + "    many = {}\n    many[1] = 1\n    k = 0\n    k += 1\n    return many\n",
    "class A:\n    def called(self):\n        self.rows.append(1)\n",
]


class Forms(unittest.TestCase):

    def test_the_package_keeps_to_the_rules(self):
        self.assertEqual(form_faults(), [])

    def test_faults_are_found(self):
        for text, rule in BAD_FILES.items():
            with self.subTest(rule):
                self.assertTrue(any(rule in fault for fault in faults_of(text)), faults_of(text))

    def test_no_other_faults_are_found(self):
        for text in GOOD_FILES:
            with self.subTest(text):
                self.assertEqual(faults_of(text), [])


def faults_of(text):
    with tempfile.TemporaryDirectory() as name:
        (pathlib.Path(name) / "some.py").write_text(text)
        return form_faults(pathlib.Path(name))


if __name__ == "__main__":
    unittest.main()
