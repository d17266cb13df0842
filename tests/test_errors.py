import unittest

from linestrikes import errors
from tests.support import Checks, any_values

TOLD = {
    "LineError": ("ValueError", []),
    "BadInput": ("LineError", []),
    "NoAnswer": ("LineError", []),
    "Struck": ("LineError", ["place", "number"]),
    "Barred": ("LineError", ["place", "value"]),
    "BadValues": ("BadInput", ["value"]),
    "BadNames": ("BadInput", []),
    "BadCell": ("BadInput", ["value"]),
    "BadLine": ("BadInput", ["at"]),
    "BadWord": ("BadInput", ["at"]),
    "BadMachine": ("BadInput", ["part"]),
    "BadClue": ("BadInput", ["part"]),
    "BadRule": ("BadInput", ["part"]),
    "BadBook": ("BadInput", ["at"]),
    "BadNumber": ("BadInput", ["part"]),
    "NoCell": ("BadInput", ["at"]),
    "Unlike": ("BadInput", ["part"]),
    "BadText": ("BadInput", ["line", "word"]),
    "BadSay": ("BadInput", ["word"]),
    "Clash": ("NoAnswer", ["place"]),
    "TooMany": ("NoAnswer", ["what", "most"]),
    "NoRule": ("NoAnswer", ["rule"]),
    "NotStable": ("NoAnswer", []),
    "NothingTold": ("NoAnswer", ["what"]),
}


class Errors(Checks, unittest.TestCase):

    def test_the_class_above_each_class(self):
        for name, (above, _) in TOLD.items():
            with self.subTest(name):
                self.assertEqual([base.__name__ for base in getattr(errors, name).__bases__], [above])
                self.assertEqual(getattr(errors, name).__module__, "linestrikes.errors")

    def test_no_other_class_stands_there(self):
        classes = [name for name, thing in vars(errors).items() if isinstance(thing, type)]
        self.assertEqual(sorted(classes), sorted(TOLD))

    def test_fields_by_position_and_by_name(self):
        things = any_values()
        for name, (_, fields) in TOLD.items():
            made = getattr(errors, name)
            for k, thing in enumerate(things):
                passed = [thing, things[k - 1]][:len(fields)]
                wanted = dict(zip(fields, passed))
                with self.subTest(name):
                    self.assertEqual(list(vars(made(*passed))), fields)
                    for error in (made(*passed), made(**wanted)):
                        for field in fields:
                            self.assertIs(getattr(error, field), wanted[field])

    def test_each_is_raised_and_caught_as_what_stands_above(self):
        for name, (_, fields) in TOLD.items():
            with self.subTest(name):
                with self.assertRaises(errors.LineError):
                    raise getattr(errors, name)(*[1, 2][:len(fields)])

    def test_missing_fields_are_refused(self):
        for name, (_, fields) in TOLD.items():
            if fields:
                with self.subTest(name), self.assertRaises(TypeError):
                    getattr(errors, name)()


if __name__ == "__main__":
    unittest.main()
