"""[1.1]: the errors and what they keep."""

import unittest

from handedworld import errors
from samples import GIVE, wrong_values

BASES = {
    "HandError": ValueError,
    "InvalidProgram": errors.HandError,
    "InvalidMeaning": errors.HandError,
    "InvalidGoal": errors.HandError,
    "InvalidOperation": errors.HandError,
    "InvalidCommand": errors.HandError,
    "ParseError": errors.HandError,
    "UnknownName": KeyError,
    "InvalidNumber": IndexError,
    "NothingToUndo": LookupError,
    "Refused": ArithmeticError,
    "TooMany": OverflowError,
}
KEEPS = {
    "ParseError": "line",
    "UnknownName": "name",
    "InvalidNumber": "value",
    "NothingToUndo": "many",
    "Refused": "name",
    "TooMany": "limit",
}


class Errors(unittest.TestCase):
    def test_direct_bases(self):
        for name, base in BASES.items():
            self.assertEqual(getattr(errors, name).__bases__, (base,), name)

    def test_none_is_derived_from_another_one(self):
        for name in BASES:
            for other in BASES:
                expected = name == other or other == "HandError" and BASES[name] is errors.HandError
                self.assertEqual(issubclass(getattr(errors, name), getattr(errors, other)), expected, (name, other))

    def test_only_those_of_the_package_are_hand_errors(self):
        for name in ("UnknownName", "InvalidNumber", "NothingToUndo", "Refused", "TooMany"):
            self.assertFalse(issubclass(getattr(errors, name), ValueError))
        self.assertFalse(issubclass(errors.NothingToUndo, (KeyError, IndexError)))
        self.assertFalse(issubclass(errors.Refused, OverflowError))

    def test_they_are_defined_here(self):
        for name in BASES:
            self.assertEqual(getattr(errors, name).__module__, "handedworld.errors")

    def test_messages(self):
        for name in BASES:
            if name not in KEEPS:
                error = getattr(errors, name)("this is why")
                self.assertIn("this is why", str(error))

    def test_what_they_keep(self):
        for name, attribute in KEEPS.items():
            for value in wrong_values():
                error = getattr(errors, name)(value)
                self.assertIs(getattr(error, attribute), value)

    def test_they_can_be_raised_and_caught_by_their_bases(self):
        for name, base in BASES.items():
            with self.assertRaises(base):
                raise getattr(errors, name)("one")

    def test_an_object_is_kept(self):
        self.assertIs(errors.UnknownName(GIVE).name, GIVE)


if __name__ == "__main__":
    unittest.main()
