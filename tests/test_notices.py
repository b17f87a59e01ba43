"""Point 1101: what an actor is told of the days from a stand on."""

import unittest

from plain_courses import closing_cases, plain_notice
from small_cases import small_case

from callsheets.booktext import parse_book
from callsheets.calendars import parse_calendar
from callsheets.daybooks import explore
from callsheets.errors import CallError, LargeError, NoticeError
from callsheets.films import parse_film
from callsheets.notices import board, held, latest_word, notice, takes_board, warning
from callsheets.stands import first_stand, is_through

FILM = parse_film("""\
ready 60
place p inside
actor ann
actor ben
actor cleo
scene a p any 60 : ann
scene b p any 60 dry : ben
""")
ONE, BOTH, TURNED = (600, (0,), (0,)), (600, (0, 1), (0,)), (600, (1, 0), (0,))
CASE = (FILM, parse_calendar(FILM, "day 400 1000\n" * 3), (), ((BOTH, TURNED), (BOTH, TURNED), (BOTH,)), (1, 0, 1, 20),
        ((0, ()),) * 3)
BOOK = parse_book(CASE, "day 0 : 0\nday 1 if lates > 0 : 1\nday 1 : 0\nday 2 : 0")
FRESH = ((-1, 0),) * 3
FIRST = (0, (), FRESH, (0, 0, 0))
OFF = ("off", None, None)


class NoticeTest(unittest.TestCase):
    def check_fault(self, code, *told):
        with self.assertRaises(NoticeError) as caught:
            notice(*told)
        self.assertIs(type(caught.exception), NoticeError)
        self.assertEqual(caught.exception.code, code)
        self.assertIsInstance(caught.exception, CallError)

    def test_what_is_told(self):
        self.assertEqual(notice(CASE, BOOK, FIRST, 0), (("on", 540, 560), OFF, OFF))
        # Rain on the first day puts ben off; on the second one he may be late.
        self.assertEqual(notice(CASE, BOOK, FIRST, 1), (("perhaps", 600, 620), ("perhaps", 540, 560), OFF))
        self.assertEqual(notice(CASE, BOOK, FIRST, 2), (OFF, OFF, OFF))
        rained = (1, (0,), ((660, 1), (-1, 0), (-1, 0)), (1, 0, 0))
        self.assertEqual(notice(CASE, BOOK, rained, 1), (("on", 540, 560), OFF))
        rained = (1, (0,), ((680, 1), (-1, 0), (-1, 0)), (1, 0, 1))
        self.assertEqual(notice(CASE, BOOK, rained, 1), (("on", 540, 540), OFF))
        self.assertEqual(notice(CASE, BOOK, rained, 0), (OFF, OFF))

    def test_small_cases_against_all_courses(self):
        words = []
        for case, book in closing_cases(range(400)):
            for stand in explore(case, book)[1]:
                for actor in (0, 1):
                    if is_through(case, stand):
                        self.check_fault("stand", case, book, stand, actor)
                    else:
                        told = notice(case, book, stand, actor)
                        self.assertEqual(told, plain_notice(case, book, stand, actor))
                        self.assertEqual(len(told), len(case[1][0]) - stand[0])
                        words += [row[0] for row in told]
        self.assertGreater(min(words.count(word) for word in ("on", "off", "perhaps")), 100)

    def test_a_call_is_at_least_0(self):
        film = parse_film("place p inside\nactor a\nscene s p any 60 : a")
        case = (film, parse_calendar(film, "day 0 1440"), (), (((20, (0,), (0,)),),), (0, 0, 1, 60), ((0, ()),))
        self.assertEqual(notice(case, ((0, None, 0),), first_stand(case), 0), (("on", 0, 20),))

    def test_breaks_comes_first(self):
        for number in range(30):
            case, book = small_case(number)
            if explore(case, book)[0] == "breaks":
                for stand in (first_stand(case), (9, (), (), ())):
                    self.check_fault("breaks", case, book, stand, 0)
                    self.check_fault("breaks", case, book, stand, 9)

    def test_stands_and_actors(self):
        rained = (1, (0,), ((660, 1), (-1, 0), (-1, 0)), (1, 0, 0))
        for stand in (
            rained[:3] + ((0, 0, 0),), (2,) + rained[1:], (1, ()) + rained[2:], rained[:2] + (FRESH, (1, 0, 0)),
            (1, (0, 1), ((660, 1), (720, 1), (-1, 0)), (0, 0, 0)), (0, (), FRESH, (1, 0, 0)), (3, (0,), FRESH, (1, 0, 0)),
        ):
            self.check_fault("stand", CASE, BOOK, stand, 0)
            self.check_fault("stand", CASE, BOOK, stand, 9)
        for actor in (-1, 3, 9):
            self.check_fault("actor", CASE, BOOK, rained, actor)

    def test_large(self):
        actors = "".join(f"actor {name}\n" for name in "abcd")
        scenes = "".join(f"scene s{k} p any 60 : {'abcd'[k % 4]}\n" for k in range(12))
        film = parse_film("place p inside\n" + actors + scenes)
        sheets = tuple(((600, tuple(range(k, 12)) + tuple(range(k)), (k,)),) for k in range(10))
        large = (film, parse_calendar(film, "day 0 1440\n" * 10), (), sheets, (3, 3, 3, 20), ((1, ()),) * 4)
        book = tuple((day, None, 0) for day in range(10))
        with self.assertRaises(LargeError):
            explore(large, book)
        for call in (
            lambda: notice(large, book, first_stand(large), 0), lambda: board(large, book),
            lambda: takes_board(large, book, ()), lambda: held(large, book, 0),
            lambda: warning(large, book, 0), lambda: latest_word(large, book, 0),
        ):
            with self.assertRaises(LargeError) as caught:
                call()
            self.assertEqual(caught.exception.code, "large")

    def test_arguments_stay_as_they_were(self):
        for case, book in closing_cases(range(60)):
            kept = repr((case, book))
            notice(case, book, first_stand(case), 0)
            self.assertEqual(repr((case, book)), kept)


if __name__ == "__main__":
    unittest.main()
