"""Point 501: call sheets."""

import unittest

from callsheets.errors import CallError, SheetError
from callsheets.films import parse_film
from callsheets.sheets import check_sheet

SMALL = parse_film("place p inside\nscene a p any 5 :\nscene b p any 5 :\nscene c p any 5 :")
LARGE = parse_film("place p inside\n" + "".join(f"scene s{k} p any 5 :\n" for k in range(12)))
ALL = tuple(range(12))
MEALS = (-1,) * 12


class SheetTest(unittest.TestCase):
    def check_code(self, code, sheet, film=SMALL):
        with self.assertRaises(SheetError) as caught:
            check_sheet(film, sheet)
        self.assertEqual(caught.exception.code, code)
        self.assertIsInstance(caught.exception, CallError)

    def test_right_sheets(self):
        for sheet in [
            (480, (), ()),
            (0, (0,), ()),
            (1440, (), (2,)),
            (480, (2, 1, 0), (0, 1, 2)),
            (480, (-1, 0, -1, 1, -1, -1), (-1, -1)),
            (480, MEALS, MEALS),
            (480, MEALS[:9] + (2, 0, 1), ()),
        ]:
            self.assertIsNone(check_sheet(SMALL, sheet), sheet)

    def test_right_sheets_of_twelve_scenes(self):
        self.assertIsNone(check_sheet(LARGE, (480, ALL, ALL[::-1])))

    def test_call(self):
        self.check_code("call", (-1, (), ()))
        self.check_code("call", (1441, (0,), (0,)))
        self.check_code("call", (99999, (), ()))

    def test_long(self):
        self.check_code("long", (480, MEALS + (-1,), ()))
        self.check_code("long", (480, (), MEALS + (-1,)))
        self.check_code("long", (480, ALL + (-1,), ()), LARGE)
        self.check_code("long", (480, (), (-1,) + ALL), LARGE)

    def test_item(self):
        for item in (-3, -2, 3, 4, 99999):
            self.check_code("item", (480, (item,), ()))
            self.check_code("item", (480, (), (item,)))
            self.check_code("item", (480, (0, -1, item), (0,)))
            self.check_code("item", (480, (0,), (item, 1)))
        self.check_code("item", (480, (12,), ()), LARGE)

    def test_twice(self):
        self.check_code("twice", (480, (0, 0), ()))
        self.check_code("twice", (480, (), (2, -1, 2)))
        self.check_code("twice", (480, (0, 1, 2, -1, 0), (0,)))
        self.check_code("twice", (480, (0,), (1, 2, 1)))
        self.check_code("twice", (480, ALL[:11] + (0,), ALL), LARGE)

    def test_a_scene_may_stand_in_both_lists(self):
        self.assertIsNone(check_sheet(SMALL, (480, (0, 1), (1, 0))))

    def test_the_first_code_that_is_due(self):
        too_many = MEALS + (-1,)
        self.check_code("call", (1441, too_many, (7,)))
        self.check_code("call", (-1, (7,), (0, 0)))
        self.check_code("call", (-1, (), (0, 0)))
        # A later list comes with an earlier code.
        self.check_code("long", (480, (7,), too_many))
        self.check_code("long", (480, (0, 0), too_many))
        self.check_code("long", (480, too_many + (7,), (0, 0)))
        self.check_code("item", (480, (0, 0), (3,)))
        self.check_code("item", (480, (0, 0, -2), ()))
        self.check_code("item", (480, (7, 7), ()))
        self.check_code("long", (480, (0,) * 13, ()))

    def test_the_sheet_stays_as_it_was(self):
        sheet = (480, (0, -1), (2, 1))
        kept = repr((SMALL, sheet))
        check_sheet(SMALL, sheet)
        self.assertEqual(repr((SMALL, sheet)), kept)


if __name__ == "__main__":
    unittest.main()
