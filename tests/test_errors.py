"""[2] and [26]: the error classes."""

import unittest

from eachhandtied import errors

BASES = {
    "NoPlace": (LookupError, "place"),
    "NoTie": (LookupError, "tie"),
    "NothingDone": (LookupError, None),
    "BadText": (ValueError, "line"),
    "Broken": (ValueError, "place"),
    "CanNot": (ValueError, None),
    "TooMany": (ValueError, None),
    "Unfit": (ValueError, None),
}


class Errors(unittest.TestCase):
    def test_each_is_under_one_class_of_python(self):
        for name, (base, _) in BASES.items():
            with self.subTest(name=name):
                told = getattr(errors, name)
                self.assertEqual(told.__bases__, (base,))
                self.assertEqual(told.__module__, "eachhandtied.errors")

    def test_values_are_kept(self):
        for name, (_, attribute) in BASES.items():
            with self.subTest(name=name):
                told = getattr(errors, name)
                if attribute is None:
                    self.assertEqual(vars(told()), {})
                    continue
                self.assertEqual(vars(told(7)), {attribute: 7})
                self.assertEqual(vars(told(**{attribute: (0, 3)})), {attribute: (0, 3)})

    def test_none_is_another(self):
        for name in BASES:
            for other in BASES:
                if name != other:
                    self.assertFalse(issubclass(getattr(errors, name), getattr(errors, other)))


if __name__ == "__main__":
    unittest.main()
