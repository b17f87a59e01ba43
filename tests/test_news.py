"""Point 1001: news of a case."""

import unittest

from callsheets.calendars import parse_calendar, print_calendar
from callsheets.cases import check_case
from callsheets.errors import CallError, MendError, SheetError
from callsheets.films import parse_film
from callsheets.news import with_news
from callsheets.ruletext import parse_rules

FILM = parse_film("""\
place hut inside
place bay outside
place inn inside
actor ann
actor ben
actor cleo
actor dora
scene a hut any 60 : ann
scene b bay any 60 dry : ben
scene c inn day 30 :
""")
SHEET = (600, (0, 1), (0,))
MENU = ((SHEET,), (SHEET, SHEET), (SHEET,) * 5, (SHEET,) * 6, (SHEET,), (SHEET,))
BOUNDS = (1, 0, 1, 20)
CALENDAR = parse_calendar(FILM, "day 400 1000\n" * 6 + """\
away ann 1 4
away ann 2 2
away ben 0 0
away ben 3 5
closed bay 0 5
closed bay 4 5
closed hut 2 3
""")
RULES = parse_rules(FILM, "rule r all : work < 600")
CASE = (FILM, CALENDAR, RULES, MENU, BOUNDS, ((5, ()),) * 4)


class NewsTest(unittest.TestCase):
    def check_change(self, news, **parts):
        """Check that news change these parts of the case, and nothing else."""
        wanted = (FILM, (parts.get("days", CALENDAR[0]), parts.get("away", CALENDAR[1]), parts.get("closed", CALENDAR[2])),
                  RULES, parts.get("menu", MENU), parts.get("bounds", BOUNDS), CASE[5])
        kept = repr((CASE, news))
        self.assertEqual(with_news(CASE, news), wanted)
        self.assertEqual(repr((CASE, news)), kept)
        self.assertIsNone(check_case(wanted))
        calendar = wanted[1]
        self.assertEqual(parse_calendar(FILM, print_calendar(FILM, calendar)), calendar)

    def check_fault(self, code, *news, kind=MendError, case=CASE):
        with self.assertRaises(kind) as caught:
            with_news(case, news)
        self.assertIs(type(caught.exception), kind)
        self.assertEqual(caught.exception.code, code, news)
        self.assertIsInstance(caught.exception, CallError)

    def test_bounds(self):
        for bounds in ((0, 0, 0, 5), (3, 3, 3, 240), (1, 0, 1, 21), (1, 0, 0, 20), (1, 1, 1, 20), (0, 0, 1, 20)):
            self.check_change(("bounds", bounds), bounds=bounds)

    def test_light(self):
        for day, light, dark in ((0, 0, 1440), (5, 400, 1001), (3, 1439, 1440), (2, 0, 1), (1, 401, 1000)):
            days = list(CALENDAR[0])
            days[day] = (light, dark)
            self.check_change(("light", day, light, dark), days=tuple(days))

    def test_away(self):
        self.check_change(("away", 2, 0, 5), away=CALENDAR[1] + ((2, 0, 5),))
        self.check_change(("away", 0, 0, 0), away=((0, 0, 0),) + CALENDAR[1])
        self.check_change(("away", 1, 3, 4), away=((0, 1, 4), (0, 2, 2), (1, 0, 0), (1, 3, 4), (1, 3, 5)))
        # It is away on these days already, but by other windows.
        self.check_change(("away", 0, 1, 2), away=((0, 1, 2), (0, 1, 4), (0, 2, 2), (1, 0, 0), (1, 3, 5)))

    def test_the_last_actor_and_place(self):
        self.check_change(("away", 3, 5, 5), away=CALENDAR[1] + ((3, 5, 5),))
        self.check_change(("closed", 2, 5, 5), closed=CALENDAR[2] + ((2, 5, 5),))
        self.check_change(("sheet", 0, (0, (2,), ())), menu=((SHEET, (0, (2,), ())),) + MENU[1:])

    def test_closed(self):
        self.check_change(("closed", 0, 5, 5), closed=((0, 2, 3), (0, 5, 5), (1, 0, 5), (1, 4, 5)))
        self.check_change(("closed", 1, 0, 4), closed=((0, 2, 3), (1, 0, 4), (1, 0, 5), (1, 4, 5)))

    def test_back(self):
        rest = ((1, 0, 0), (1, 3, 5))
        self.check_change(("back", 0, 1), away=((0, 2, 2), (0, 2, 4)) + rest)
        self.check_change(("back", 0, 2), away=((0, 1, 1), (0, 3, 4)) + rest)
        self.check_change(("back", 0, 3), away=((0, 1, 2), (0, 2, 2), (0, 4, 4)) + rest)
        self.check_change(("back", 0, 4), away=((0, 1, 3), (0, 2, 2)) + rest)
        self.check_change(("back", 1, 0), away=CALENDAR[1][:2] + ((1, 3, 5),))
        self.check_change(("back", 1, 5), away=CALENDAR[1][:3] + ((1, 3, 4),))

    def test_open(self):
        hut = ((0, 2, 3),)
        self.check_change(("open", 1, 0), closed=hut + ((1, 1, 5), (1, 4, 5)))
        self.check_change(("open", 1, 3), closed=hut + ((1, 0, 2), (1, 4, 5)))
        # What is left of both windows is the same one: it stands once.
        self.check_change(("open", 1, 4), closed=hut + ((1, 0, 3), (1, 5, 5)))
        self.check_change(("open", 1, 5), closed=hut + ((1, 0, 4), (1, 4, 4)))
        self.check_change(("open", 0, 2), closed=((0, 3, 3),) + CALENDAR[2][1:])

    def test_sheet(self):
        other = (0, (-1,), ())
        self.check_change(("sheet", 0, other), menu=((SHEET, other),) + MENU[1:])
        self.check_change(("sheet", 2, other), menu=MENU[:2] + ((SHEET,) * 5 + (other,),) + MENU[3:])
        # The same sheet once more is another menu.
        self.check_change(("sheet", 5, SHEET), menu=MENU[:5] + ((SHEET, SHEET),))

    def test_one_after_the_other(self):
        case = with_news(with_news(CASE, ("away", 2, 1, 3)), ("back", 2, 2))
        self.assertEqual(case[1][1], CALENDAR[1] + ((2, 1, 1), (2, 3, 3)))
        self.assertEqual(with_news(with_news(case, ("back", 2, 1)), ("back", 2, 3)), CASE)

    def test_unknown(self):
        for number in (-1, 4, 99):
            self.check_fault("unknown", "away", number, 0, 0)
            self.check_fault("unknown", "back", number, 2)
        for number in (-1, 3, 99):
            self.check_fault("unknown", "closed", number, 0, 0)
            self.check_fault("unknown", "open", number, 2)

    def test_day(self):
        for day in (-1, 6, 99):
            self.check_fault("day", "light", day, 0, 1)
            self.check_fault("day", "sheet", day, SHEET)
            self.check_fault("day", "back", 0, day)
            self.check_fault("day", "open", 1, day)
        for first, last in ((-1, 0), (0, 6), (6, 6), (2, 1), (5, 0), (6, 5), (-2, -1), (-1, 6)):
            self.check_fault("day", "away", 0, first, last)
            self.check_fault("day", "closed", 0, first, last)

    def test_bounds_and_light(self):
        for bounds in ((4, 0, 0, 20), (0, 4, 0, 20), (0, 0, 4, 20), (-1, 0, 0, 20), (0, 0, 0, 4), (0, 0, 0, 241)):
            self.check_fault("bounds", "bounds", bounds)
        for light, dark in ((400, 400), (401, 400), (0, 1441), (-1, 5), (0, 0)):
            self.check_fault("light", "light", 0, light, dark)

    def test_many_and_the_codes_of_the_sheet(self):
        self.check_fault("many", "sheet", 3, (0, (), ()))
        for sheet, code in (
            ((1441, (), ()), "call"), ((-1, (), ()), "call"), ((0, (-1,) * 13, ()), "long"), ((0, (), (3,)), "item"),
            ((0, (-2,), ()), "item"), ((0, (1, 1), ()), "twice"), ((1441, (3, 3), ()), "call"), ((0, (3,), (0, 0)), "item"),
        ):
            self.check_fault(code, "sheet", 0, sheet, kind=SheetError)

    def test_idle(self):
        self.check_fault("idle", "bounds", BOUNDS)
        self.check_fault("idle", "light", 3, 400, 1000)
        self.check_fault("idle", "away", 0, 1, 4)
        self.check_fault("idle", "closed", 0, 2, 3)
        self.check_fault("idle", "back", 2, 3)
        self.check_fault("idle", "back", 0, 5)
        self.check_fault("idle", "back", 1, 2)
        self.check_fault("idle", "open", 0, 1)
        self.check_fault("idle", "open", 0, 4)

    def test_the_first_code_of_two(self):
        self.check_fault("unknown", "away", 4, 5, 4)
        self.check_fault("unknown", "back", 4, 6)
        self.check_fault("unknown", "open", 3, -1)
        self.check_fault("day", "light", 6, 5, 4)
        self.check_fault("day", "sheet", 6, (1441, (), ()))
        self.check_fault("many", "sheet", 3, (1441, (5,), ()))
        self.check_fault("many", "sheet", 3, SHEET)


if __name__ == "__main__":
    unittest.main()
