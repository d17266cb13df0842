import pathlib
import tempfile
import unittest

from tests.forms import form_faults

BASES = "class A:\n    def __init__(self, x):\n        self.x = x\n\n\nclass B(A):\n    pass\n\n\n"
HELPED = "class A:\n    def __neg__(self):\n        return helped(self.rows)\n\n\ndef helped(rows):\n"

BAD_FILES = {
    BASES + "class C(B):\n    def __init__(self):\n        A.__init__(self, 1)\n": "L28",
    BASES + "class C(B):\n    def __init__(self, x):\n        B.__init__(x, 1)\n": "L28",
    HELPED + "    row = [x for row in rows for x in row]\n    row.append(1)\n    return row\n": "row is changed",
    HELPED + "    rows.append(1)\n    return rows\n": "rows is changed",
    HELPED + "    found = rows\n    found[0] = 1\n    return found\n": "found is changed",
    HELPED + "    many = 0\n    many |= 1\n    return many\n": "this sign",
    HELPED + "    many = 0\n    many += len(rows)\n    return many\n": "no literal",
    HELPED + "    rows.many = 1\n    return rows\n": "an attribute",
    "class A:\n    @property\n    def many(self):\n        self.rows[0] = 1\n        return 1\n": "self.rows is changed",
}

# A loop changes what it walks, told by the name that is changed and by the rows of the function f.
BAD_LOOPS = [
    ("longer", "rows = [1]", "for _ in range(3):", "    longer = []", "    for row in rows:",
     "        longer.extend([row])", "    rows = longer"),
    ("longer", "longer = xs", "for row in xs:", "    longer.append(row)"),
    ("xs", "longer = xs", "for row in longer:", "    xs[0] = row"),
    ("longer", "longer = xs if xs else []", "for row in xs:", "    longer.append(row)"),
    ("longer", "longer = xs or []", "for row in xs:", "    longer.pop()"),
    ("xs", "for row in xs or []:", "    xs.append(row)"),
    ("longer", "for row in xs:", "    longer, last = xs, row", "    longer.append(last)"),
    ("longer", "longer = xs.rows", "for row in xs.rows:", "    longer.append(row)"),
    ("longer", "longer = []", "xs.rows = longer", "for row in xs.rows:", "    longer += [row]"),
    ("fresh", "for _ in range(3):", "    fresh = []", "    for row in xs[-1]:", "        fresh.append(row)",
     "    xs.append(fresh)"),
    ("fresh", "for _ in range(3):", "    word, rows = xs[0]", "    fresh = {}", "    for row in rows:",
     "        fresh[row] = 1", "    xs.append((word + 'x', fresh))"),
    ("fresh", "fresh = []", "held = [fresh, *xs]", "for rows in held:", "    for row in rows:",
     "        fresh.append(row)"),
    ("longer", "longer = xs", "for at, row in enumerate(xs):", "    longer[at] = row"),
    ("longer", "longer = xs", "for row, other in zip([1], reversed(xs)):", "    longer.append(row)"),
    ("longer", "longer = xs", "for key, row in xs.items():", "    longer.setdefault(row, key)"),
    ("longer", "longer = xs", "return [longer.pop() for row in xs]"),
]
GOOD_LOOPS = [
    ("longer = xs", "for row in list(xs):", "    longer.append(row)"),
    ("longer = xs", "for row in xs[1:]:", "    longer.append(row)"),
    ("longer = list(xs)", "for row in xs:", "    longer.append(row)"),
    ("rows = [1]", "for _ in range(3):", "    rows = [longer for row in rows for longer in g(row)]"),
    ("for rows in xs:", "    for row in list(rows):", "        xs[0].append(row)"),
    ("for _ in range(3):", "    fresh = []", "    for row in xs[-1]:", "        fresh.append(row)",
     "    xs.append(tuple(fresh))"),
    ("many = 0", "for row in xs:", "    many += 1", "    other = row", "for one in [other]:", "    many += 1"),
]

GOOD_FILES = [
    BASES + "class C(B):\n    def __init__(self):\n        B.__init__(self, 1)\n",
    HELPED + "    found = [x for row in rows for x in row]\n    found.append(1)\n    return found\n",
    HELPED + "    many = {}\n    many[1] = 1\n    k = 0\n    k += 1\n    return many\n",
    "class A:\n    def called(self):\n        self.rows.append(1)\n",
]


class Forms(unittest.TestCase):

    def test_the_package_keeps_to_the_rules(self):
        self.assertEqual(form_faults(), [])

    def test_faults_are_found(self):
        for text, rule in BAD_FILES.items():
            with self.subTest(rule):
                self.assertTrue(any(rule in fault for fault in faults_of(text)), faults_of(text))

    def test_no_other_faults_are_found(self):
        for text in GOOD_FILES:
            with self.subTest(text):
                self.assertEqual(faults_of(text), [])

    def test_loops_that_change_what_they_walk_are_found(self):
        for name, *rows in BAD_LOOPS:
            with self.subTest(rows):
                self.assertEqual([fault.partition("L23: ")[2] for fault in faults_of(function_of(rows))],
                                 [f"{name} is changed where it is walked"])

    def test_no_other_loops_are_found(self):
        for rows in GOOD_LOOPS:
            with self.subTest(rows):
                self.assertEqual(faults_of(function_of(rows)), [])


def function_of(rows):
    return "\n".join(["def f(xs):", *[f"    {row}" for row in rows], ""])


def faults_of(text):
    with tempfile.TemporaryDirectory() as name:
        (pathlib.Path(name) / "some.py").write_text(text)
        return form_faults(pathlib.Path(name))


if __name__ == "__main__":
    unittest.main()
