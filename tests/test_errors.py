"""The errors (promise 2; section 1 of the interface)."""

import unittest

from boxrows import errors

WITH_TEXT = [
    "InvalidBox", "InvalidBoxes", "InvalidLayout", "InvalidName", "InvalidWidth", "InvalidLevel", "InvalidIndex",
    "InvalidNumber", "InvalidShares", "InvalidCurve", "OtherNames", "NoWidth", "InvalidGap", "InvalidTimes",
    "InvalidSizes", "InvalidDrags", "MixedDrags", "InvalidGoal", "NameTaken", "InvalidOperation", "Nothing",
    "InvalidCommand",
]


class ErrorsTest(unittest.TestCase):
    def test_base_class(self):
        self.assertEqual(errors.RowError.__bases__, (ValueError,))

    def test_each_error_derives_directly_from_the_base(self):
        for name in WITH_TEXT + ["InvalidText", "TooLarge"]:
            with self.subTest(name=name):
                error = getattr(errors, name)
                self.assertEqual(error.__bases__, (errors.RowError,))
                self.assertEqual(error.__module__, "boxrows.errors")

    def test_errors_take_one_string(self):
        for name in WITH_TEXT:
            with self.subTest(name=name):
                error = getattr(errors, name)("why")
                self.assertIs(error.__class__, getattr(errors, name))
                self.assertEqual(str(error), "why")
                with self.assertRaises(errors.RowError):
                    raise error

    def test_invalid_text_keeps_its_index(self):
        for index in (0, 1, 4000, None):
            error = errors.InvalidText(index)
            self.assertIs(error.__class__, errors.InvalidText)
            self.assertEqual(error.index, index)

    def test_too_large_keeps_its_limit(self):
        for limit in (12, 40, 10 ** 6, 10 ** 30):
            error = errors.TooLarge(limit)
            self.assertIs(error.__class__, errors.TooLarge)
            self.assertEqual(error.limit, limit)

    def test_no_other_classes(self):
        found = [name for name in vars(errors) if isinstance(getattr(errors, name), type)]
        self.assertEqual(sorted(found), sorted(WITH_TEXT + ["RowError", "InvalidText", "TooLarge"]))


if __name__ == "__main__":
    unittest.main()
