"""Points 1005 and 1006: stands that a mend touches, and news that are not survived."""

import itertools
import unittest

from plain_courses import all_courses, closing_cases
from small_cases import small_case

from callsheets.booktext import parse_book
from callsheets.calendars import parse_calendar
from callsheets.daybooks import choice, explore
from callsheets.errors import CallError, MendError, SheetError
from callsheets.films import parse_film
from callsheets.mends import first_loss, least_mend, mended, touched
from callsheets.news import with_news
from callsheets.stands import first_stand, is_through

FILM = parse_film("place p inside\nactor ann\nscene a p any 60 : ann\nscene b p any 60 dry :")
ONE, BOTH, NOTHING = (600, (0,), (0,)), (600, (0, 1), (0,)), (600, (), ())
CASE = (FILM, parse_calendar(FILM, "day 400 1000\n" * 3), (), ((ONE, BOTH, NOTHING), (BOTH, NOTHING), (NOTHING, BOTH)),
        (1, 0, 0, 20), ((10, ()),))
FIRST = (0, (), ((-1, 0),), (0, 0, 0))


def reached(case, book):
    """Return the stands of a day book that closes, course by course."""
    told = {first_stand(case)}
    for course in all_courses(case, book):
        told |= {row[3][1] for row in course}
    return told


def some_mends(case, book):
    changes = [("more", day, number) for day, sheets in enumerate(case[3]) for number in range(len(sheets))]
    for line, (day, _, old) in enumerate(book):
        changes += [("sheet", line, number) for number in range(len(case[3][day])) if number != old]
    return [(), *[(change,) for change in changes],
            *[pair for pair in itertools.combinations(sorted(changes), 2) if pair[0][:2] != pair[1][:2]]]


class TouchedTest(unittest.TestCase):
    def test_small_cases(self):
        seen = []
        for number in range(100):
            case, book = small_case(number)
            for mend in some_mends(case, book):
                new = mended(case, book, mend)
                if explore(case, book)[0] == explore(case, new)[0] == "closes":
                    told = touched(case, book, mend)
                    stands = reached(case, book) | reached(case, new)
                    wanted = [
                        (stand, choice(book, stand), choice(new, stand)) for stand in sorted(stands)
                        if not is_through(case, stand) and choice(book, stand) != choice(new, stand)
                    ]
                    self.assertEqual(told, tuple(wanted), (number, mend))
                    seen.append(len(told))
                    self.check_days(case, book, new, told)
                else:
                    with self.assertRaises(MendError) as caught:
                        touched(case, book, mend)
                    self.assertEqual(caught.exception.code, "breaks")
        self.assertGreater(seen.count(0), 20)
        self.assertGreater(len(seen) - seen.count(0), 50)

    def check_days(self, case, book, new, told):
        """Up to the least day of a touched stand both have the same stands."""
        least = min((row[0][0] for row in told), default=99)
        stands = [[stand for stand in explore(case, one)[1] if stand[0] <= least] for one in (book, new)]
        self.assertEqual(stands[0], stands[1])

    def test_what_is_told(self):
        book = parse_book(CASE, "day 0 : 1\nday 1 : 0\nday 2 : 1")
        self.assertEqual(touched(CASE, book, ()), ())
        self.assertEqual(touched(CASE, book, (("sheet", 2, 0),)), ())
        self.assertEqual(touched(CASE, book, (("sheet", 0, 0),)), ((FIRST, 1, 0),))
        # The second day has a stand only behind rain.
        rained = (1, (0,), ((660, 1),), (1, 0, 0))
        self.assertEqual(touched(CASE, book, (("sheet", 1, 1),)), ((rained, 0, 1),))

    def test_no_sheet_without_the_mend(self):
        book = parse_book(CASE, "day 0 : 1\nday 1 : 0")
        mend = (("more", 2, 1), ("sheet", 0, 0))
        told = touched(CASE, book, mend)
        behind = (2, (0,), ((-1, 0),), (1, 0, 0))
        self.assertEqual(told, ((FIRST, 1, 0), (behind, None, 1)))
        self.assertEqual(touched(CASE, mended(CASE, book, mend), (("sheet", 0, 1),)), ((FIRST, 0, 1),))

    def test_errors(self):
        broken = parse_book(CASE, "day 0 : 0")
        for code, mend in (
            ("long", (("more", 0, 0),) * 4), ("order", (("more", 1, 0), ("more", 0, 0))), ("line", (("sheet", 1, 0),)),
            ("day", (("more", 3, 0),)), ("sheet", (("more", 0, 3),)), ("same", (("sheet", 0, 0),)), ("breaks", ()),
            ("breaks", (("more", 1, 0), ("more", 2, 1))), ("breaks", (("sheet", 0, 1),)),
        ):
            with self.assertRaises(MendError) as caught:
                touched(CASE, broken, mend)
            self.assertEqual(caught.exception.code, code)
            self.assertIsInstance(caught.exception, CallError)
        with self.assertRaises(MendError) as caught:
            touched(CASE, parse_book(CASE, "day 0 : 1\nday 1 : 0"), (("sheet", 0, 2),))
        self.assertEqual(caught.exception.code, "breaks")

    def test_the_least_mend_touches_stands(self):
        for number in range(200):
            case, book = small_case(number)
            mend = least_mend(case, book, 2)
            if mend:
                with self.assertRaises(MendError):
                    touched(case, book, mend)


class FirstLossTest(unittest.TestCase):
    BOOK = parse_book(CASE, "day 0 : 1\nday 1 : 0\nday 2 : 1")

    def test_none(self):
        self.assertIsNone(first_loss(CASE, self.BOOK, ()))
        self.assertIsNone(first_loss(CASE, self.BOOK, (("bounds", (2, 0, 0, 20)), ("away", 0, 2, 2), ("back", 0, 2))))

    def test_at_once(self):
        self.assertEqual(first_loss(CASE, (), ()), 0)
        # The news are not taken any more, even if they are wrong.
        self.assertEqual(first_loss(CASE, (), (("away", 7, 0, 0),)), 0)

    def test_the_least_number(self):
        news = (("bounds", (2, 0, 0, 20)), ("light", 0, 0, 1440), ("bounds", (3, 0, 0, 20)), ("bounds", (0, 0, 0, 20)))
        self.assertEqual(first_loss(CASE, self.BOOK, news), 3)
        self.assertEqual(first_loss(CASE, self.BOOK, news[2:]), 1)
        self.assertIsNone(first_loss(CASE, self.BOOK, news[:2] + news[3:]))
        self.assertEqual(first_loss(CASE, self.BOOK, (("away", 0, 0, 0),)), 1)
        # Both actors and places count as they are behind all news so far.
        self.assertEqual(first_loss(CASE, self.BOOK, (("away", 0, 2, 2), ("closed", 0, 1, 2))), 2)

    def test_news_as_far_as_they_are_taken(self):
        bad = ("away", 7, 0, 0)
        self.assertEqual(first_loss(CASE, self.BOOK, (("bounds", (3, 0, 0, 20)), bad)), 1)
        for news, kind, code in (
            ((bad,), MendError, "unknown"), ((("bounds", (2, 0, 0, 20)), bad), MendError, "unknown"),
            ((("back", 0, 1),), MendError, "idle"), ((("light", 3, 0, 1),), MendError, "day"),
            ((("bounds", (2, 0, 0, 20)),) * 2, MendError, "idle"), ((("sheet", 0, (0, (0, 0), ())),), SheetError, "twice"),
        ):
            with self.assertRaises(kind) as caught:
                first_loss(CASE, self.BOOK, news)
            self.assertEqual(caught.exception.code, code)

    def test_small_cases(self):
        seen = []
        for case, book in closing_cases(range(300)):
            news = (("away", 0, 1, 1), ("bounds", (*[used + 1 for used in case[4][:3]], 30)), ("closed", 0, 0, 1),
                    ("light", 0, 0, 1))
            known, wanted = case, None
            for count, one in enumerate(news, start=1):
                known = with_news(known, one)
                if explore(known, book)[0] == "breaks":
                    wanted = count
                    break
            kept = repr((case, book, news))
            self.assertEqual(first_loss(case, book, news), wanted)
            self.assertEqual(first_loss(case, book, list(news)), wanted)
            self.assertEqual(repr((case, book, news)), kept)
            seen.append(wanted)
        self.assertGreater(len(set(seen)), 2)


if __name__ == "__main__":
    unittest.main()
