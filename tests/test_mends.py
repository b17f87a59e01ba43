"""Points 1002 and 1003: mends of day books, and the least one that keeps a day book."""

import itertools
import time
import unittest

from small_cases import small_case

from callsheets.booktext import parse_book
from callsheets.calendars import parse_calendar
from callsheets.daybooks import choice, explore
from callsheets.errors import CallError, MendError
from callsheets.films import parse_film
from callsheets.mends import least_mend, mended

FILM = parse_film("""\
place p inside
actor ann
scene a p any 60 : ann
scene b p any 60 dry :
""")
ONE, BOTH, NOTHING = (600, (0,), (0,)), (600, (0, 1), (0,)), (600, (), ())
CASE = (FILM, parse_calendar(FILM, "day 400 1000\n" * 3), (), ((ONE, BOTH, NOTHING), (BOTH, NOTHING), (NOTHING, BOTH)),
        (1, 0, 0, 20), ((10, ()),))
BOOK = parse_book(CASE, "day 1 if shot a : 0\nday 0 : 2\nday 1 : 1\nday 2 if rains = 1 : 1")
LONG = tuple((day, None, 0) for day in (0, 1, 2)) * 20


def all_changes(case, book):
    """Return all changes of a day book, whether they are of the same sheet or not."""
    told = [("more", day, number) for day, sheets in enumerate(case[3]) for number in range(len(sheets))]
    for line, (day, _, _) in enumerate(book):
        told += [("sheet", line, number) for number in range(len(case[3][day]))]
    return told


def plainly_mended(case, book, mend):
    """Return what point 1002 tells: the day book, or the code of the error."""
    if len(mend) > 3:
        return "long"
    if any(one >= other for one, other in zip(mend, mend[1:])) or len({row[:2] for row in mend}) < len(mend):
        return "order"
    lines = [list(row) for row in book]
    for word, place, number in mend:
        if word == "sheet":
            if place not in range(len(book)):
                return "line"
            if number not in range(len(case[3][book[place][0]])):
                return "sheet"
            if number == book[place][2]:
                return "same"
            lines[place][2] = number
        else:
            if place not in range(len(case[3])):
                return "day"
            if number not in range(len(case[3][place])):
                return "sheet"
    lines += [[place, None, number] for word, place, number in mend if word == "more"]
    return tuple(map(tuple, lines)) if len(lines) <= 60 else "many"


def plain_least(case, book, most):
    """Return the least mend, by going through all mends."""
    for size in range(most + 1):
        for mend in itertools.combinations(sorted(all_changes(case, book)), size):
            new = plainly_mended(case, book, mend)
            if isinstance(new, tuple) and explore(case, new)[0] == "closes":
                return mend
    return None


class MendedTest(unittest.TestCase):
    def check_fault(self, code, *mend, book=BOOK):
        with self.assertRaises(MendError) as caught:
            mended(CASE, book, mend)
        self.assertIs(type(caught.exception), MendError)
        self.assertEqual(caught.exception.code, code, mend)
        self.assertIsInstance(caught.exception, CallError)

    def test_no_change(self):
        self.assertEqual(mended(CASE, BOOK, ()), BOOK)
        self.assertEqual(mended(CASE, (), ()), ())

    def test_other_sheets(self):
        self.assertEqual(mended(CASE, BOOK, (("sheet", 0, 1),)), ((1, BOOK[0][1], 1),) + BOOK[1:])
        self.assertEqual(
            mended(CASE, BOOK, (("sheet", 1, 0), ("sheet", 2, 0), ("sheet", 3, 0))),
            (BOOK[0], (0, None, 0), (1, None, 0), (2, BOOK[3][1], 0)),
        )

    def test_more_lines(self):
        self.assertEqual(mended(CASE, BOOK, (("more", 1, 0),)), BOOK + ((1, None, 0),))
        self.assertEqual(
            mended(CASE, BOOK, (("more", 0, 2), ("more", 1, 1), ("more", 2, 0))),
            BOOK + ((0, None, 2), (1, None, 1), (2, None, 0)),
        )
        self.assertEqual(mended(CASE, (), (("more", 2, 1),)), ((2, None, 1),))

    def test_both_kinds(self):
        self.assertEqual(
            mended(CASE, BOOK, (("more", 0, 1), ("more", 2, 0), ("sheet", 1, 1))),
            (BOOK[0], (0, None, 1)) + BOOK[2:] + ((0, None, 1), (2, None, 0)),
        )

    def test_long(self):
        self.check_fault("long", ("more", 0, 0), ("more", 1, 0), ("more", 2, 0), ("sheet", 0, 1))
        self.check_fault("long", *[("sheet", 9, 9)] * 4)

    def test_order(self):
        for mend in (
            (("sheet", 0, 1), ("more", 0, 0)), (("more", 1, 0), ("more", 0, 0)), (("sheet", 1, 0), ("sheet", 0, 1)),
            (("more", 0, 0), ("more", 0, 0)), (("more", 0, 0), ("more", 0, 1)), (("sheet", 1, 0), ("sheet", 1, 1)),
            (("more", 0, 0), ("sheet", 1, 0), ("sheet", 1, 1)), (("more", 2, 0), ("sheet", 1, 1), ("sheet", 1, 0)),
        ):
            self.check_fault("order", *mend)

    def test_line_and_day(self):
        for line in (-1, 4, 60):
            self.check_fault("line", ("sheet", line, 0))
        for day in (-1, 3, 10):
            self.check_fault("day", ("more", day, 0))

    def test_sheet(self):
        for change in (("more", 0, 3), ("more", 1, 2), ("more", 1, -1), ("sheet", 0, 2), ("sheet", 1, 3), ("sheet", 1, -1)):
            self.check_fault("sheet", change)

    def test_same(self):
        for change in (("sheet", 0, 0), ("sheet", 1, 2), ("sheet", 2, 1), ("sheet", 3, 1)):
            self.check_fault("same", change)

    def test_many(self):
        line = (0, None, 1)
        self.assertEqual(len(mended(CASE, LONG[:59], (("more", 0, 1),))), 60)
        self.assertEqual(len(mended(CASE, LONG[:57], (("more", 0, 1), ("more", 1, 1), ("more", 2, 1)))), 60)
        self.assertEqual(mended(CASE, LONG, (("sheet", 0, 1), ("sheet", 59, 1))), (line,) + LONG[1:59] + ((2, None, 1),))
        self.check_fault("many", ("more", 0, 1), book=LONG)
        self.check_fault("many", ("more", 0, 1), ("sheet", 0, 1), book=LONG)
        self.check_fault("many", ("more", 0, 1), ("more", 1, 1), book=LONG[:59])
        self.check_fault("many", ("more", 0, 1), ("more", 1, 1), ("more", 2, 1), book=LONG[:58])

    def test_the_first_code_of_two(self):
        self.check_fault("long", ("more", 0, 9), ("more", 0, 9), ("sheet", 0, 9), ("sheet", 9, 0))
        self.check_fault("order", ("more", 9, 0), ("more", 0, 0))
        self.check_fault("order", ("sheet", 9, 0), ("sheet", 9, 1))
        self.check_fault("day", ("more", 3, 9), ("sheet", 9, 0))
        self.check_fault("sheet", ("more", 0, 9), ("sheet", 9, 0))
        self.check_fault("same", ("sheet", 1, 2), ("sheet", 9, 0))
        self.check_fault("sheet", ("sheet", 1, 3), ("sheet", 2, 1))
        self.check_fault("line", ("sheet", 60, 0), book=LONG)
        self.check_fault("same", ("more", 0, 0), ("sheet", 1, 0), book=LONG)

    def test_all_mends_of_small_cases(self):
        for number in range(12):
            case, book = small_case(number)
            changes = all_changes(case, book) + [("more", 9, 0), ("sheet", 0, 9)]
            for mend in itertools.chain(itertools.product(changes, repeat=1), itertools.product(changes, repeat=2)):
                wanted = plainly_mended(case, book, mend)
                if isinstance(wanted, str):
                    with self.assertRaises(MendError) as caught:
                        mended(case, book, mend)
                    self.assertEqual(caught.exception.code, wanted, mend)
                else:
                    self.assertEqual(mended(case, book, mend), wanted)


class LeastMendTest(unittest.TestCase):
    def test_small_cases_against_all_mends(self):
        sizes = []
        for number in range(200):
            case, book = small_case(number)
            for most in (0, 1, 2):
                told = least_mend(case, book, most)
                self.assertEqual(told, plain_least(case, book, most), (number, most))
            sizes.append(None if told is None else len(told))
        self.assertGreater(min(sizes.count(size) for size in (None, 0, 1, 2)), 5)

    def test_a_day_book_that_closes(self):
        book = parse_book(CASE, "day 0 : 0\nday 1 : 0\nday 2 : 1")
        for most in (0, 1, 2):
            self.assertEqual(least_mend(CASE, book, most), ())

    def test_the_least_tuple(self):
        # Each sheet for the first day is good, and so is another one for the second day.
        book = parse_book(CASE, "day 0 : 0\nday 2 : 1")
        self.assertEqual(least_mend(CASE, book, 2), (("more", 1, 0),))
        book = parse_book(CASE, "day 2 : 1")
        self.assertIsNone(least_mend(CASE, book, 1))
        self.assertEqual(least_mend(CASE, book, 2), (("more", 0, 0), ("more", 1, 0)))
        book = parse_book(CASE, "day 2 : 0\nday 1 : 1\nday 0 : 2")
        self.assertIsNone(least_mend(CASE, book, 1))
        # As there is rain on one day only, two days with all scenes are enough.
        self.assertEqual(least_mend(CASE, book, 2), (("sheet", 0, 1), ("sheet", 1, 0)))

    def test_the_second_change_comes_first_in_the_tuple(self):
        # With rain the first day breaks; only with another sheet for it the second day matters.
        wet = (600, (0, 1), (1,))
        case = (*CASE[:3], ((wet, BOTH), (BOTH,), (BOTH,)), *CASE[4:])
        book = parse_book(case, "day 0 : 0")
        self.assertEqual(explore(case, book), ("breaks", (("rain", -1, 0),), ("wet", 1)))
        self.assertIsNone(least_mend(case, book, 1))
        self.assertEqual(least_mend(case, book, 2), (("more", 1, 0), ("sheet", 0, 1)))

    def test_none(self):
        self.assertIsNone(least_mend(CASE, (), 0))
        self.assertIsNone(least_mend(CASE, (), 1))
        self.assertEqual(least_mend(CASE, (), 2), (("more", 0, 1), ("more", 1, 0)))
        for rains in (2, 3):
            self.assertIsNone(least_mend((*CASE[:4], (rains, 0, 0, 20), CASE[5]), (), 2))

    def test_room_for_60_lines(self):
        # Behind rain on the first day only a line more for the second one keeps them.
        book = ((0, None, 1),) * 59
        self.assertEqual(least_mend(CASE, book, 2), (("more", 1, 0),))
        self.assertIsNone(least_mend(CASE, (*book, (0, None, 1)), 2))
        self.assertEqual(least_mend(CASE, (*book, (1, None, 1)), 2), (("sheet", 59, 0),))
        # There is room for one line, and not for two of them.
        self.assertEqual(least_mend(CASE, ((2, None, 1),) * 58, 2), (("more", 0, 0), ("more", 1, 0)))
        self.assertIsNone(least_mend(CASE, ((2, None, 1),) * 59, 2))

    def test_most(self):
        for most in (-1, 3, 9):
            with self.assertRaises(MendError) as caught:
                least_mend(CASE, (), most)
            self.assertEqual(caught.exception.code, "most")

    def test_a_mend_never_makes_stands_with_two_choices(self):
        for number in range(60):
            case, book = small_case(number)
            mend = least_mend(case, book, 2)
            if mend:
                new = mended(case, book, mend)
                told = explore(case, new)
                self.assertEqual(told[0], "closes")
                self.assertTrue(any(choice(new, stand) != choice(book, stand) for stand in told[1]))

    def test_a_greater_case(self):
        lines = [f"actor a{k}" for k in range(4)] + [f"scene s{k} p any 60 dry : a{k % 4}" for k in range(6)]
        film = parse_film("place p inside\n" + "\n".join(lines))
        every = tuple(range(6))
        menu = (((600, every[:2], ()), (600, every[:3], ()), (600, (), ()), (600, every, ()), (600, every[:5], ())),) * 6
        case = (film, parse_calendar(film, "day 400 1000\n" * 6), (), menu, (2, 1, 0, 20), ((0, ()),) * 4)
        book = tuple((day, None, 0) for day in range(6))
        begun = time.monotonic()
        self.assertIsNone(least_mend(case, book, 2))
        self.assertLess(time.monotonic() - begun, 60)

    def test_arguments_stay_as_they_were(self):
        for number in range(20):
            case, book = small_case(number)
            kept = repr((case, book))
            least_mend(case, book, 2)
            mended(case, book, (("more", 0, 0),))
            self.assertEqual(repr((case, book)), kept)


if __name__ == "__main__":
    unittest.main()
