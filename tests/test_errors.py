"""The error classes of the interface."""

import unittest

from outpressed import errors

FIELDS = {
    "BadAlphabet": ["alphabet"], "BadLetter": ["index"], "BadRow": ["index"], "BadTail": ["tail"],
    "BadRank": ["rank"], "NotBits": ["index"], "BadIndex": ["index"], "BadStanding": ["standing"],
    "BadRule": ["standing", "letter"], "AlphabetsDiffer": ["one", "two"], "DoesNotComeBack": ["one", "two"],
    "TooLarge": ["number"], "NotWritten": ["index"], "NoSuchText": ["last"], "BadName": ["name"],
    "NameTaken": ["name"], "NoName": ["name"], "EmptyRing": [], "NotInLot": ["text"], "BadBuild": ["index"],
    "BadGrowth": ["index"], "EmptyText": [], "NothingToUndo": [], "NothingToRedo": [],
}


class ErrorsTest(unittest.TestCase):
    def test_there_are_24_and_each_is_a_direct_subclass(self):
        self.assertEqual(24, len(FIELDS))
        self.assertEqual((ValueError,), errors.PressError.__bases__)
        for name in FIELDS:
            self.assertEqual((errors.PressError,), getattr(errors, name).__bases__, name)
            self.assertEqual("outpressed.errors", getattr(errors, name).__module__)

    def test_fields_by_position_and_by_name(self):
        for name, fields in FIELDS.items():
            values = [17, "x"][:len(fields)]
            for error in (getattr(errors, name)(*values), getattr(errors, name)(**dict(zip(fields, values)))):
                self.assertEqual(values, [getattr(error, field) for field in fields], name)

    def test_any_value_of_the_kinds_is_kept_and_nothing_is_raised(self):
        for name, fields in FIELDS.items():
            for value in (0, -5, 10 ** 40, "", "no alphabet", True, False, None):
                error = getattr(errors, name)(*[value for _ in fields])
                for field in fields:
                    self.assertIs(type(value), type(getattr(error, field)))
                    self.assertEqual(value, getattr(error, field))

    def test_they_can_be_raised_and_caught_as_the_base_class(self):
        for name, fields in FIELDS.items():
            with self.assertRaises(errors.PressError) as caught:
                raise getattr(errors, name)(*["x" for _ in fields])
            self.assertEqual(name, type(caught.exception).__name__)


if __name__ == "__main__":
    unittest.main()
