"""Points 301 and 302: calendars and their texts."""

import unittest

from callsheets.calendars import parse_calendar, print_calendar
from callsheets.errors import CalendarError
from callsheets.films import parse_film

FILM = parse_film(
    "place hut inside\nplace bay outside\nactor ann\nactor ben minor\nactor cid\nscene s hut day 60 : ann"
)
TEXT = """\
# windows stand ahead of the days that they need
away   ben 1   2
closed bay 0 0   # the first day only

day 360 1080
 away ann 2 3
  day   0   1440
closed hut 3 3
away ben 1 2
day 1439 1440
away ben 0 3
closed bay 0 0
closed bay 0 1
day 0 1
away ann 0 0
"""
CALENDAR = (
    ((360, 1080), (0, 1440), (1439, 1440), (0, 1)),
    ((0, 0, 0), (0, 2, 3), (1, 0, 3), (1, 1, 2)),
    ((0, 3, 3), (1, 0, 0), (1, 0, 1)),
)
DAYS = "".join("day {} {}\n".format(300 + k, 1000 + k) for k in range(10))


def fault(text):
    """Return the code and the line of the error of a text, or None if it has none."""
    try:
        parse_calendar(FILM, text)
    except CalendarError as error:
        return error.code, error.line
    return None


class ParseCalendarTest(unittest.TestCase):
    def test_lines_in_any_order(self):
        self.assertEqual(repr(parse_calendar(FILM, TEXT)), repr(CALENDAR))
        self.assertEqual(parse_calendar(FILM, TEXT[:-1]), CALENDAR)

    def test_one_day(self):
        self.assertEqual(parse_calendar(FILM, "day 0 1440"), (((0, 1440),), (), ()))
        self.assertEqual(parse_calendar(FILM, "day 0 1440\nclosed bay 0 0"), (((0, 1440),), (), ((1, 0, 0),)))
        self.assertEqual(parse_calendar(FILM, "away cid 0 0\nday 0 1440"), (((0, 1440),), ((2, 0, 0),), ()))

    def test_days_in_the_order_of_the_text(self):
        self.assertEqual(
            parse_calendar(FILM, "day 500 600\nday 0 1\nday 500 600")[0], ((500, 600), (0, 1), (500, 600))
        )

    def test_windows_once_and_ascending(self):
        text = DAYS + "away cid 1 1\naway ann 5 9\naway ann 5 8\naway ann 0 9\naway cid 1 1\naway ann 5 9\n"
        self.assertEqual(parse_calendar(FILM, text)[1], ((0, 0, 9), (0, 5, 8), (0, 5, 9), (2, 1, 1)))
        text = DAYS + "closed bay 1 1\nclosed hut 5 9\nclosed hut 5 8\nclosed hut 0 9\nclosed bay 1 1\n"
        self.assertEqual(parse_calendar(FILM, text)[2], ((0, 0, 9), (0, 5, 8), (0, 5, 9), (1, 1, 1)))

    def test_ten_days(self):
        calendar = parse_calendar(FILM, DAYS)
        self.assertEqual(calendar[0], tuple((300 + k, 1000 + k) for k in range(10)))

    def test_text_of_6000_characters(self):
        self.assertEqual(parse_calendar(FILM, TEXT + "#" * (6000 - len(TEXT))), CALENDAR)

    def test_names_of_actors_and_places_may_be_the_same(self):
        film = parse_film("place x inside\nplace y inside\nactor y\nactor x\nscene s x any 5 :")
        calendar = parse_calendar(film, "day 1 2\naway x 0 0\nclosed x 0 0")
        self.assertEqual(calendar, (((1, 2),), ((1, 0, 0),), ((0, 0, 0),)))


class CalendarErrorsTest(unittest.TestCase):
    def check(self, head, line, code):
        with self.subTest(line):
            expected = None if code is None else (code, head.count("\n"))
            self.assertEqual(fault(head + line), expected)
            self.assertEqual(fault(head + line + "\n"), expected)

    def test_long(self):
        self.assertEqual(fault(TEXT + "#" * (6001 - len(TEXT))), ("long", 0))
        self.assertEqual(fault("\n" * 6001), ("long", 0))
        self.assertEqual(fault("\nfoo" + " " * 6000), ("long", 0))

    def test_form(self):
        for line in (
            "foo", "Day 1 2", "day", "day 1", "day 1 2 3", "day a b", "day 1 b", "day -1 2", "day 01 2", "day 1 002",
            "day 1 100000", "day 1:2", "\tday 1 2", "day 1 2\t", "days 1 2",
            "away", "away ann", "away ann 0", "away ann 0 0 0", "away Ann 0 0", "away 0 0 0", "away ann x 0",
            "away ann 0 y", "away ann -1 0", "away ann 00 0", "away abcdefghijklm 0 0",
            "closed", "closed hut", "closed hut 0", "closed hut 0 0 0", "closed Hut 0 0", "closed 0 0 0",
            "closed hut x 0", "closed hut 0 y", "closed hut 0 000000", "open hut 0 0", "away ann : 0 0",
        ):
            self.check("# a\nday 1 2\n", line, "form")

    def test_many(self):
        self.check(DAYS, "day 1 2", "many")
        self.check(DAYS, "away ann 0 9", None)
        self.check(DAYS.replace("day 309 1009\n", ""), "day 1 2", None)

    def test_light(self):
        for line in ("day 5 5", "day 6 5", "day 0 0", "day 0 1441", "day 1440 1441", "day 1440 1440", "day 99999 0",
                     "day 1439 99999"):
            self.check("", line, "light")
            self.check("day 1 2\n\n", line, "light")
        for line in ("day 0 1", "day 0 1440", "day 1439 1440", "day 5 6"):
            self.check("", line, None)

    def test_unknown(self):
        head = "day 1 2\nday 1 2\n"
        for line in ("away dan 0 0", "away hut 0 0", "away s 0 0", "away all 0 0", "closed sea 0 0", "closed ann 0 0",
                     "closed s 0 0"):
            self.check(head, line, "unknown")

    def test_days(self):
        head = "day 1 2\nday 1 2\nday 1 2\n"
        for line in ("away ann 1 0", "away ann 2 1", "away ann 0 3", "away ann 3 3", "away ben 0 99999",
                     "closed bay 1 0", "closed hut 2 1", "closed bay 0 3", "closed bay 3 3", "closed bay 99999 99999"):
            self.check(head, line, "days")
        for line in ("away ann 0 2", "away ann 2 2", "away cid 0 0", "closed bay 0 2", "closed hut 2 2"):
            self.check(head, line, None)

    def test_days_of_all_lines_count(self):
        self.assertEqual(fault("away ann 0 2\nday 1 2\nday 1 2\nday 1 2"), None)
        self.assertEqual(fault("away ann 0 3\nday 1 2\nday 1 2\nday 1 2"), ("days", 0))
        self.assertEqual(fault("closed bay 0 0"), ("days", 0))
        # Lines count by their first word, even such as have an error themselves; remarks do not.
        self.assertEqual(fault("away ann 0 1\nday 1 2\nday x"), ("form", 2))
        self.assertEqual(fault("away ann 0 1\nday 1 2\nday 2 1"), ("light", 2))
        self.assertEqual(fault("away ann 0 10\n" + DAYS + "day 1 2"), ("many", 11))
        self.assertEqual(fault("away ann 0 11\n" + DAYS + "day 1 2"), ("days", 0))
        self.assertEqual(fault("away ann 0 1\nday 1 2\n# day 1 2"), ("days", 0))
        self.assertEqual(fault("away ann 0 1\nday 1 2\nnext day 1 2"), ("days", 0))
        self.assertEqual(fault("away ann 0 1\n   day 1 2 # day 1 2\n\n  day#\n"), ("form", 3))

    def test_none(self):
        self.assertEqual(fault(""), ("none", 1))
        self.assertEqual(fault("# day 1 2\n"), ("none", 2))
        self.assertEqual(fault("\n\n  \n"), ("none", 4))

    def test_first_line_that_has_an_error(self):
        self.assertEqual(fault("day 1 2\naway dan 0 0\nfoo"), ("unknown", 1))
        self.assertEqual(fault("day 1 2\n\nfoo\nday 2 1"), ("form", 2))
        self.assertEqual(fault("day 2 1\n" + DAYS), ("light", 0))

    def test_order_of_the_errors_of_a_line(self):
        self.check(DAYS, "day 1 x", "form")
        self.check(DAYS, "day 2 1", "many")
        self.check(DAYS, "day 0 1441", "many")
        self.check(DAYS, "away dan x 0", "form")
        self.check(DAYS, "away dan 1 0", "unknown")
        self.check(DAYS, "closed sea 0 10", "unknown")


class PrintCalendarTest(unittest.TestCase):
    def test_days_then_away_then_closed(self):
        self.assertEqual(print_calendar(FILM, CALENDAR), (
            "day 360 1080\nday 0 1440\nday 1439 1440\nday 0 1\n"
            "away ann 0 0\naway ann 2 3\naway ben 0 3\naway ben 1 2\n"
            "closed hut 3 3\nclosed bay 0 0\nclosed bay 0 1\n"
        ))

    def test_text_read_again_gives_the_calendar_back(self):
        texts = (TEXT, DAYS, "day 0 1", DAYS + "closed bay 0 9\nclosed hut 9 9", "away cid 0 0\nday 1 2")
        for text in texts:
            calendar = parse_calendar(FILM, text)
            self.assertEqual(repr(parse_calendar(FILM, print_calendar(FILM, calendar))), repr(calendar))

    def test_arguments_stay_as_they_were(self):
        before = repr((FILM, CALENDAR))
        print_calendar(FILM, CALENDAR)
        parse_calendar(FILM, TEXT)
        self.assertEqual(repr((FILM, CALENDAR)), before)


if __name__ == "__main__":
    unittest.main()
