"""Point 601: cases."""

import unittest

from callsheets.calendars import parse_calendar
from callsheets.cases import check_case
from callsheets.errors import CallError, CaseError, MoneyError, SheetError
from callsheets.films import parse_film
from callsheets.ruletext import parse_rules

FILM = parse_film("place p inside\nactor a\nscene s p any 5 : a\nscene t p any 5 :")
CALENDAR = parse_calendar(FILM, "day 0 1440\nday 400 800")
RULES = parse_rules(FILM, "rule r all : work < 600")
SHEET = (480, (0, 1), (0,))
MENU = ((SHEET,), (SHEET, SHEET))
BOUNDS = (1, 1, 1, 30)
FEES = ((100, ((300, 5),)),)


def case(menu=MENU, bounds=BOUNDS, fees=FEES):
    return (FILM, CALENDAR, RULES, menu, bounds, fees)


class CaseTest(unittest.TestCase):
    def check_code(self, kind, code, told):
        with self.assertRaises(kind) as caught:
            check_case(told)
        self.assertIs(type(caught.exception), kind)
        self.assertEqual(caught.exception.code, code)
        self.assertIsInstance(caught.exception, CallError)

    def test_right_cases(self):
        self.assertIsNone(check_case(case()))
        self.assertIsNone(check_case(case(menu=((SHEET,) * 6, (SHEET,)))))
        self.assertIsNone(check_case(case(menu=(((0, (), ()),), ((1440, (-1,) * 12, (1, 0)),) * 6))))
        for bounds in ((0, 0, 0, 5), (3, 3, 3, 240), (0, 3, 0, 239), (2, 1, 3, 6)):
            self.assertIsNone(check_case(case(bounds=bounds)), bounds)
        self.assertIsNone(check_case(case(fees=((0, ()),))))

    def test_menu(self):
        for menu in ((), ((SHEET,),), ((SHEET,), (SHEET,), (SHEET,)), ((SHEET,), ()), ((), (SHEET,)),
                     ((SHEET,), (SHEET,) * 7), ((SHEET,) * 7, (SHEET,))):
            self.check_code(CaseError, "menu", case(menu=menu))

    def test_sheets(self):
        for sheet, code in (
            ((1441, (), ()), "call"), ((0, (-1,) * 13, ()), "long"), ((0, (), (2,)), "item"), ((0, (1, 1), ()), "twice"),
        ):
            self.check_code(SheetError, code, case(menu=((sheet,), (SHEET,))))
            self.check_code(SheetError, code, case(menu=((SHEET,), (SHEET, sheet))))
            self.check_code(SheetError, code, case(menu=((SHEET,) * 5 + (sheet,), (SHEET,))))

    def test_the_first_wrong_sheet(self):
        item, call = (0, (7,), ()), (-1, (), ())
        self.check_code(SheetError, "item", case(menu=((item, call), (SHEET,))))
        self.check_code(SheetError, "call", case(menu=((call, item), (SHEET,))))
        self.check_code(SheetError, "item", case(menu=((SHEET, item), (call,))))

    def test_bounds(self):
        for bounds in (
            (-1, 0, 0, 30), (0, -1, 0, 30), (0, 0, -1, 30), (4, 0, 0, 30), (0, 4, 0, 30), (0, 0, 4, 30),
            (0, 0, 0, 4), (0, 0, 0, 241), (3, 3, 3, 0), (3, 3, 3, -30),
        ):
            self.check_code(CaseError, "bounds", case(bounds=bounds))

    def test_fees(self):
        self.check_code(MoneyError, "many", case(fees=()))
        self.check_code(MoneyError, "fee", case(fees=((-1, ()),)))
        self.check_code(MoneyError, "steps", case(fees=((1, ((5, 1), (5, 1))),)))
        self.check_code(MoneyError, "pay", case(fees=((1, ((5, -1),)),)))

    def test_the_first_error_of_several(self):
        wrong = (1441, (), ())
        self.check_code(CaseError, "menu", case(menu=((wrong,),), bounds=(4, 0, 0, 0), fees=()))
        self.check_code(CaseError, "menu", case(menu=((wrong,), ()), bounds=(4, 0, 0, 0), fees=()))
        self.check_code(SheetError, "call", case(menu=((wrong,), (SHEET,)), bounds=(4, 0, 0, 0), fees=()))
        self.check_code(SheetError, "call", case(menu=((SHEET,), (wrong,)), fees=()))
        self.check_code(CaseError, "bounds", case(bounds=(4, 0, 0, 0), fees=()))

    def test_the_case_stays_as_it_was(self):
        given = case()
        kept = repr(given)
        check_case(given)
        self.assertEqual(repr(given), kept)


if __name__ == "__main__":
    unittest.main()
