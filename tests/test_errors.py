"""The error classes of the interface."""

import unittest

from forgetwork import errors

NAMES = ["BadArchive", "BadRoom", "BadDelay", "BadTicks", "BadBuild", "BadPeople", "BadPosition", "BadWish", "TooLarge",
         "BadBound", "BadSplit", "BadKeeper", "BadAnswer", "NothingDone", "BadLog", "BadText"]


class ErrorsTest(unittest.TestCase):
    def test_base(self):
        self.assertEqual(errors.ForgetError.__bases__, (ValueError,))

    def test_direct_subclasses(self):
        for name in NAMES:
            with self.subTest(name=name):
                self.assertEqual(getattr(errors, name).__bases__, (errors.ForgetError,))

    def test_no_other_subclass(self):
        self.assertEqual(sorted(found.__name__ for found in errors.ForgetError.__subclasses__()), sorted(NAMES))

    def test_index_of_a_log(self):
        for index in (None, 0, 11):
            self.assertEqual(errors.BadLog(index).index, index)
        with self.assertRaises(errors.ForgetError) as held:
            raise errors.BadLog(3)
        self.assertEqual(held.exception.index, 3)

    def test_row_of_a_text(self):
        for row in (0, 1, 7):
            self.assertEqual(errors.BadText(row).row, row)
        with self.assertRaises(ValueError) as held:
            raise errors.BadText(2)
        self.assertEqual(held.exception.row, 2)


if __name__ == "__main__":
    unittest.main()
