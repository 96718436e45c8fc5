"""The refusals: their classes, and what stands under what."""

import unittest

from freshsheet import errors

NAMES = ["NoNumber", "NoBook", "TooGreat", "NoPlace", "NoName", "NoUndo", "NoRedo", "NoRow", "NoText"]


class ErrorsTest(unittest.TestCase):
    def test_any_refusal_is_a_value_error(self):
        self.assertEqual(errors.SheetError.__bases__, (ValueError,))

    def test_each_is_a_sheet_error_and_under_no_other(self):
        for name in NAMES:
            with self.subTest(name):
                one = getattr(errors, name)
                self.assertTrue(issubclass(one, errors.SheetError))
                for other in NAMES:
                    if other != name:
                        self.assertFalse(issubclass(one, getattr(errors, other)))

    def test_each_is_raised_and_taken(self):
        for name in NAMES:
            with self.subTest(name):
                one = getattr(errors, name)
                with self.assertRaises(errors.SheetError) as taken:
                    raise one(3)
                self.assertIs(type(taken.exception), one)

    def test_no_text_tells_where(self):
        for at in (0, 1, 200):
            self.assertEqual(errors.NoText(at).at, at)

    def test_the_others_tell_no_where(self):
        for name in NAMES[:-1]:
            self.assertFalse(hasattr(getattr(errors, name)("words"), "at"), name)


if __name__ == "__main__":
    unittest.main()
