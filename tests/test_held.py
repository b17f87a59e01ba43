"""Points 1103 and 1104: how often actors are held, and how early they are warned."""

import unittest

from plain_courses import all_courses, call_of, closing_cases, plain_notice
from small_cases import small_case

from callsheets.booktext import parse_book
from callsheets.calendars import parse_calendar
from callsheets.daybooks import explore
from callsheets.errors import CallError, NoticeError
from callsheets.films import parse_film
from callsheets.notices import held, latest_word, warning

FILM = parse_film("""\
ready 60
place p inside
actor ann
actor ben
actor cleo
actor dave
scene a p any 60 : ann
scene b p any 60 dry : ben
scene c p any 60 : cleo
""")
BOTH, LAST = (600, (0, 1), (0,)), (600, (1, 2), (2,))
CASE = (FILM, parse_calendar(FILM, "day 400 1000\n" * 4), (), ((BOTH,), (BOTH,), (LAST,), (LAST,)), (1, 0, 0, 20),
        ((0, ()),) * 4)
BOOK = parse_book(CASE, "day 0 : 0\nday 1 : 0\nday 2 : 0\nday 3 : 0")


def words_at(case, book, stand, actor):
    return [row[0] for row in plain_notice(case, book, stand, actor)]


def plain_held(case, book, actor):
    counts = []
    for course in all_courses(case, book):
        counts.append(sum(words_at(case, book, row[0], actor).count("perhaps") for row in course))
    return min(counts), max(counts)


def plain_warning(case, book, actor):
    found = []
    for course in all_courses(case, book):
        for at, row in enumerate(course):
            if call_of(case, row, actor) is not None:
                early = [at - other for other in range(at + 1)
                         if words_at(case, book, course[other][0], actor)[at - other] == "on"]
                found.append(max(early, default=-1))
    return min(found, default=None)


def plain_latest(case, book, actor):
    days = [row[0][0] for course in all_courses(case, book) for row in course
            if "perhaps" in words_at(case, book, row[0], actor)]
    return max(days, default=-1)


class HeldTest(unittest.TestCase):
    def test_what_is_told(self):
        # On rain ben works on the second day, and it is known then.
        self.assertEqual([held(CASE, BOOK, actor) for actor in range(4)], [(0, 0), (2, 2), (0, 0), (0, 0)])
        self.assertEqual([warning(CASE, BOOK, actor) for actor in range(4)], [0, -1, 2, None])
        self.assertEqual([latest_word(CASE, BOOK, actor) for actor in range(4)], [-1, 0, -1, -1])

    def test_a_course_through_the_last_day(self):
        book = parse_book(CASE, "day 0 : 0\nday 1 : 0\nday 2 : 0\nday 3 : 0")
        case = (*CASE[:3], ((BOTH,), ((600, (), ()),), (BOTH,), ((600, (0, 1, 2), (0, 2)),)), *CASE[4:])
        self.assertEqual(explore(case, book)[0], "closes")
        self.assertEqual([warning(case, book, actor) for actor in range(4)],
                         [plain_warning(case, book, actor) for actor in range(4)])
        self.assertEqual(warning(case, book, 2), 3)
        self.assertEqual(warning(case, book, 1), -1)
        self.assertEqual([held(case, book, actor) for actor in range(4)],
                         [plain_held(case, book, actor) for actor in range(4)])

    def test_held_at_each_stand_of_a_course(self):
        # However the first day is, rain may still put off the second one.
        menu = (((600, (0,), (0,)),),) + (((600, (1, 2), (2,)),),) * 3
        case = (*CASE[:3], menu, (2, 0, 0, 20), CASE[5])
        self.assertEqual([held(case, BOOK, actor) for actor in range(4)], [(0, 0), (5, 8), (0, 0), (0, 0)])
        self.assertEqual([plain_held(case, BOOK, actor) for actor in range(4)], [(0, 0), (5, 8), (0, 0), (0, 0)])
        self.assertEqual([latest_word(case, BOOK, actor) for actor in range(4)], [-1, 2, -1, -1])
        self.assertEqual([warning(case, BOOK, actor) for actor in range(4)], [0, -1, 1, None])

    def test_small_cases_against_all_courses(self):
        told = {held: [], warning: [], latest_word: []}
        for case, book in closing_cases(range(500)):
            for actor in (0, 1):
                for call, plain in ((held, plain_held), (warning, plain_warning), (latest_word, plain_latest)):
                    answer = call(case, book, actor)
                    self.assertEqual(answer, plain(case, book, actor))
                    told[call].append(answer)
        for wanted in (None, -1, 0, 1, 2):
            self.assertIn(wanted, told[warning])
        for wanted in (-1, 0, 1):
            self.assertIn(wanted, told[latest_word])
        self.assertTrue(any(least < greatest for least, greatest in told[held]))

    def test_errors(self):
        for call in (held, warning, latest_word):
            for actor in (-1, 4, 9):
                with self.assertRaises(NoticeError) as caught:
                    call(CASE, BOOK, actor)
                self.assertIs(type(caught.exception), NoticeError)
                self.assertEqual(caught.exception.code, "actor")
                self.assertIsInstance(caught.exception, CallError)
            for actor in (0, 9):
                with self.assertRaises(NoticeError) as caught:
                    call(CASE, BOOK[:1], actor)
                self.assertEqual(caught.exception.code, "breaks")

    def test_arguments_stay_as_they_were(self):
        for number in range(60):
            case, book = small_case(number)
            kept = repr((case, book))
            for call in (held, warning, latest_word):
                if explore(case, book)[0] == "closes":
                    call(case, book, 0)
            self.assertEqual(repr((case, book)), kept)


if __name__ == "__main__":
    unittest.main()
