"""The errors: their classes, base classes and attributes."""

import inspect
import unittest

from shrunkrooms import errors
from tests.tools import Stranger

WITH_VALUE = ("InvalidGrid InvalidHelpers InvalidList InvalidMany InvalidNumber InvalidPlace InvalidPlaces InvalidRoom "
              "InvalidTable InvalidTeam InvalidChain InvalidClaim InvalidCommand InvalidForm InvalidLetters InvalidLists "
              "InvalidNumbers InvalidPaper InvalidSort InvalidTables").split()

LISTED = {
    "RoomError": (ValueError, None),
    "MissingError": (LookupError, None),
    "StateError": (RuntimeError, None),
    "LimitError": (ArithmeticError, None),
    "DividedByZero": ("RoomError", []),
    "InvalidLines": ("RoomError", ["position"]),
    "InvalidText": ("RoomError", ["line"]),
    "UnknownLabel": ("MissingError", ["value"]),
    "UnknownName": ("MissingError", ["value"]),
    "CommandFailed": ("StateError", ["position"]),
    "LabelTaken": ("StateError", ["label"]),
    "NameTaken": ("StateError", ["name"]),
    "NotFair": ("StateError", []),
    "NotFull": ("StateError", []),
    "NotSimple": ("StateError", []),
    "NotSquare": ("StateError", []),
    "NothingLeft": ("StateError", []),
    "NothingToRedo": ("StateError", []),
    "NothingToUndo": ("StateError", []),
    "UnlikeMany": ("StateError", []),
    "UnlikeTeams": ("StateError", []),
    "UnlikeWidths": ("StateError", []),
    "TooMany": ("LimitError", ["what", "limit"]),
}
LISTED.update({name: ("RoomError", ["value"]) for name in WITH_VALUE})

ANY = [None, True, 0, -1, "", "x" * 100, [], [[1]], (1, 2), {}, {1: 2}, object(), Stranger, Stranger(), len, ValueError("x")]


class Errors(unittest.TestCase):
    def test_all_and_only_the_listed_classes(self):
        found = [name for name, value in vars(errors).items() if inspect.isclass(value)]
        self.assertEqual(sorted(found), sorted(LISTED))
        self.assertEqual(len(LISTED), 43)
        for name in LISTED:
            self.assertEqual(getattr(errors, name).__module__, "shrunkrooms.errors")
            self.assertEqual(getattr(errors, name).__name__, name)

    def test_each_has_just_its_base_class(self):
        for name, (base, _) in LISTED.items():
            wanted = getattr(errors, base) if isinstance(base, str) else base
            self.assertEqual(getattr(errors, name).__bases__, (wanted,), name)

    def test_attributes_by_position_and_by_name(self):
        for name, (_, parameters) in LISTED.items():
            made = getattr(errors, name)
            for shift in range(len(ANY)):
                given = [ANY[(shift + 3 * at) % len(ANY)] for at in range(len(parameters or []))]
                named = dict(zip(parameters or [], given))
                for error in (made(*given), made(**named)):
                    self.assertEqual(sorted(vars(error)), sorted(parameters or []), name)
                    for parameter in named:
                        self.assertIs(getattr(error, parameter), named[parameter], name)
                    self.assertIsInstance(str(error), str)

    def test_each_parameter_is_wanted_and_no_more(self):
        for name, (_, parameters) in LISTED.items():
            if parameters:
                with self.assertRaises(TypeError):
                    getattr(errors, name)(*([1] * (len(parameters) - 1)))
            if parameters is not None:
                with self.assertRaises(TypeError):
                    getattr(errors, name)(*([1] * (len(parameters) + 1)))

    def test_raised_and_caught_by_the_base_classes(self):
        with self.assertRaises(ValueError):
            raise errors.InvalidText(3)
        with self.assertRaises(LookupError):
            raise errors.UnknownName("x")
        with self.assertRaises(RuntimeError):
            raise errors.CommandFailed(None)
        with self.assertRaises(ArithmeticError):
            raise errors.TooMany("names", 12)
        self.assertFalse(issubclass(errors.DividedByZero, ArithmeticError))
        self.assertFalse(issubclass(errors.UnknownLabel, KeyError))


if __name__ == "__main__":
    unittest.main()
