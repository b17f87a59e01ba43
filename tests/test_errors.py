"""Point 3: the error classes."""

import unittest

from callsheets import errors

WITH_LINE = ("FilmError", "CalendarError", "RuleError", "BookError")
WITHOUT_LINE = (
    "OrderError", "SheetError", "CaseError", "LargeError", "MoneyError",
    "MendError", "NoticeError", "StockError", "HouseError",
)


class ErrorsTest(unittest.TestCase):
    def test_call_error_derives_from_value_error(self):
        self.assertEqual(errors.CallError.__bases__, (ValueError,))

    def test_all_derive_directly_from_call_error(self):
        for name in WITH_LINE + WITHOUT_LINE:
            with self.subTest(name):
                self.assertEqual(getattr(errors, name).__bases__, (errors.CallError,))

    def test_all_are_defined_in_their_file(self):
        for name in ("CallError",) + WITH_LINE + WITHOUT_LINE:
            with self.subTest(name):
                self.assertEqual(getattr(errors, name).__module__, "callsheets.errors")

    def test_errors_of_texts_have_a_code_and_a_line(self):
        for name in WITH_LINE:
            with self.subTest(name):
                error = getattr(errors, name)("form", 3)
                self.assertEqual((error.code, error.line), ("form", 3))

    def test_other_errors_have_a_code(self):
        for name in WITHOUT_LINE:
            with self.subTest(name):
                self.assertEqual(getattr(errors, name)("open").code, "open")

    def test_no_error_is_caught_as_another_one(self):
        with self.assertRaises(errors.FilmError):
            try:
                raise errors.FilmError("form", 0)
            except (errors.CalendarError, errors.RuleError, errors.OrderError):
                self.fail("caught as an error of another kind")


if __name__ == "__main__":
    unittest.main()
