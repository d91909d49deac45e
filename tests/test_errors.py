"""The interface's nearorders/errors.py."""

import unittest

from nearorders import errors

NAMES = [
    "NoOrder", "NoNumber", "NoPairs", "Round", "NoThing", "NoRow", "NoSeating",
    "NoRing", "NoSizes", "TooMany", "TooFew", "NoText", "NoLine", "NoDeed",
]


class Errors(unittest.TestCase):
    def test_near_error_is_a_value_error(self):
        self.assertEqual(errors.NearError.__bases__, (ValueError,))

    def test_the_fourteen_stand_straight_under_it(self):
        for name in NAMES:
            self.assertEqual(getattr(errors, name).__bases__, (errors.NearError,), name)

    def test_there_are_no_others_and_no_two_are_one(self):
        under = errors.NearError.__subclasses__()
        self.assertEqual(sorted(each.__name__ for each in under), sorted(NAMES))
        self.assertEqual(len(set(getattr(errors, name) for name in NAMES)), 14)

    def test_none_stands_under_another_one(self):
        for name in NAMES:
            self.assertEqual(getattr(errors, name).__subclasses__(), [], name)

    def test_each_is_made_with_a_text(self):
        for name in ["NearError"] + NAMES:
            refusal = getattr(errors, name)
            self.assertEqual(str(refusal("why so")), "why so")
            with self.assertRaises(errors.NearError):
                raise refusal("why so")


if __name__ == "__main__":
    unittest.main()
