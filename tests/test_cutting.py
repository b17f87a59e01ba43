"""Points 1204 to 1206: when scenes can be cut, and how many rolls are needed."""

import itertools
import unittest

from plain_courses import all_courses, closing_cases
from small_cases import small_case

from callsheets.booktext import parse_book
from callsheets.calendars import parse_calendar
from callsheets.courses import run
from callsheets.cutting import back_days, cut_day, cut_days, is_ahead, late_course, most_rolls, rolls_of
from callsheets.daybooks import explore
from callsheets.errors import CallError, CaseError, StockError
from callsheets.films import parse_film
from callsheets.hours import hours

FILM = parse_film("""\
ready 60
place p inside
actor ann
actor ben
scene a p any 60 : ann
scene b p any 50 dry : ben
scene c p any 40 : ann ben
""")
TWO, REST, NOTHING = (600, (0, -1, 1), (0,)), (600, (0, 1, 2), (2, 0)), (600, (), ())
CASE = (FILM, parse_calendar(FILM, "day 400 1000\n" * 3), (), ((TWO, NOTHING), (TWO, REST), (REST, NOTHING)), (1, 0, 1, 20),
        ((0, ()),) * 2)
DRY, RAIN, LATE = ("dry", -1, 0), ("rain", -1, 0), ("dry", -1, 20)
BOOK = parse_book(CASE, "day 0 : 0\nday 1 : 1\nday 2 : 0")
THROUGH = ((0, RAIN), (0, DRY), (0, LATE))
OPEN = ((0, DRY),)


def sequences_of(case):
    scenes = range(len(case[0][2]))
    return [row for size in range(1, len(scenes) + 1) for row in itertools.combinations(scenes, size)]


def plain_back_days(case, course, lab):
    """Return the days on which scenes come back, for steps of a course as plain_courses tells them."""
    days = {}
    for stand, _, _, told in course:
        if told[0] == "stand":
            for scene in set(told[1][1]) - set(stand[1]):
                days[scene] = stand[0] + lab
    return tuple(days.get(scene) for scene in range(len(case[0][2])))


def plain_rolls(case, course, roll):
    """Return how many rolls a course needs, take by take."""
    count = 0
    for (day, shot, _, _), number, triple, told in course:
        left = 0
        for item, begin, end in hours(case[0], case[3][day][number], shot, triple)[0] if told[0] == "stand" else ():
            if item != -1:
                if end - begin > left:
                    count, left = count + 1, roll
                left -= end - begin
    return count


def key_of(triples):
    """Return by what rows of triples are compared in the order of point 602."""
    return [((w == "rain") + (ill >= 0) + (late > 0), w == "rain", ill, late) for w, ill, late in triples]


def pairs_of(course):
    return tuple((number, triple) for _, number, triple, _ in course)


class FaultTest(unittest.TestCase):
    def check_fault(self, code, call, kind=StockError):
        with self.assertRaises(kind) as caught:
            call()
        self.assertIs(type(caught.exception), kind)
        self.assertEqual(caught.exception.code, code)
        self.assertIsInstance(caught.exception, CallError)


class CourseTest(FaultTest):
    def test_back_days(self):
        self.assertEqual(back_days(CASE, (), 3), (None, None, None))
        self.assertEqual(back_days(CASE, OPEN, 0), (0, 0, None))
        self.assertEqual(back_days(CASE, THROUGH, 0), (0, 1, 2))
        self.assertEqual(back_days(CASE, THROUGH, 9), (9, 10, 11))
        self.assertEqual(back_days(CASE, ((0, RAIN), (1, DRY)), 2), (2, 3, 3))

    def test_courses_that_break(self):
        # What is behind the break is left aside, even if it is wrong.
        for course, days, rolls in (
            (((1, DRY), (0, DRY), (1, DRY)), (1, 1, None), 2), (((0, DRY), (0, DRY), (1, DRY), (9, DRY)), (0, 0, None), 2),
        ):
            self.assertEqual(run(CASE, course)[1], ("break", ("end", 2)))
            self.assertEqual(back_days(CASE, course, 0), days)
            self.assertEqual(rolls_of(CASE, course, 60), rolls)
        film = FILM[:3] + (((0, 2),),) + FILM[4:]
        case = (film, CASE[1], (), (((600, (1,), (1,)),), ((600, (2, 0), (2, 0)),), (REST,)), *CASE[4:])
        self.assertEqual(run(case, ((0, DRY), (0, DRY)))[1], ("break", ("order", 2)))
        self.assertEqual(back_days(case, ((0, DRY), (0, DRY), (5, DRY)), 0), (None, 0, None))
        self.assertIsNone(cut_day(case, ((0, DRY), (0, DRY), (5, DRY)), (0,), 0))
        self.assertEqual(rolls_of(case, ((0, DRY), (0, DRY), (5, DRY)), 60), 1)

    def test_a_step_that_breaks_leads_to_no_stand(self):
        # Both scenes stand on the last day's sheet, but the step breaks as the third one does not.
        case = (*CASE[:3], ((NOTHING,), (NOTHING,), (TWO,)), *CASE[4:])
        course = ((0, DRY), (0, DRY), (0, DRY))
        self.assertEqual(run(case, course)[1], ("break", ("end", 2)))
        self.assertEqual(back_days(case, course, 0), (None, None, None))
        self.assertEqual(rolls_of(case, course, 60), 0)

    def test_cut_day(self):
        self.assertEqual(cut_day(CASE, THROUGH, (0,), 0), 0)
        self.assertEqual(cut_day(CASE, THROUGH, (0, 1), 0), 1)
        self.assertEqual(cut_day(CASE, THROUGH, (0, 1, 2), 5), 7)
        self.assertEqual(cut_day(CASE, OPEN, (0, 1), 4), 4)
        self.assertIsNone(cut_day(CASE, OPEN, (0, 2), 4))
        self.assertIsNone(cut_day(CASE, (), (1,), 0))

    def test_errors_come_ahead_of_those_of_run(self):
        wrong = ((9, DRY),)
        for lab in (-1, 10):
            self.check_fault("lab", lambda: back_days(CASE, wrong, lab))
            self.check_fault("lab", lambda: cut_day(CASE, wrong, (), lab))
            self.check_fault("lab", lambda: cut_day(CASE, THROUGH, (0,), lab))
        for sequence in ((), (1, 0), (0, 0), (3,), (-1,), (0, 3), (-1, 0), (0, 1, 2, 3)):
            self.check_fault("scenes", lambda: cut_day(CASE, THROUGH, sequence, 0))
            self.check_fault("scenes", lambda: cut_day(CASE, wrong, sequence, 9))
        for code, course in (
            ("sheet", wrong), ("nature", ((0, ("dry", 0, 0)),)), ("through", THROUGH + ((0, DRY),)),
            ("nature", ((0, RAIN), (0, RAIN))),
        ):
            self.check_fault(code, lambda: back_days(CASE, course, 0), CaseError)
            self.check_fault(code, lambda: cut_day(CASE, course, (0,), 0), CaseError)
            self.check_fault(code, lambda: rolls_of(CASE, course, 60), CaseError)
            self.check_fault("roll", lambda: rolls_of(CASE, course, 59))

    def test_rolls_of(self):
        self.assertEqual(rolls_of(CASE, (), 60), 0)
        # Each day begins a new roll; the meal needs none.
        self.assertEqual(rolls_of(CASE, OPEN, 60), 2)
        self.assertEqual(rolls_of(CASE, OPEN, 110), 1)
        self.assertEqual(rolls_of(CASE, THROUGH, 999), 3)
        self.assertEqual(rolls_of(CASE, ((0, RAIN), (1, DRY)), 90), 2)
        self.assertEqual(rolls_of(CASE, ((0, RAIN), (1, DRY)), 89), 3)
        self.assertEqual(rolls_of(CASE, ((1, DRY), (1, DRY)), 100), 2)
        # In the order of the day, not of the fewest rolls: 60, 50, 40.
        self.assertEqual(rolls_of(CASE, ((1, DRY), (1, DRY)), 109), 2)

    def test_roll(self):
        for roll in (0, -1, 1000, 59, 10 ** 6):
            self.check_fault("roll", lambda: rolls_of(CASE, (), roll))
            self.check_fault("roll", lambda: most_rolls(CASE, BOOK, roll))
            self.check_fault("roll", lambda: most_rolls(CASE, (), roll))
        self.check_fault("breaks", lambda: most_rolls(CASE, (), 60))

    def test_small_cases_against_all_courses(self):
        words = []
        for number in range(120):
            case, book = small_case(number)
            for course in all_courses(case, book)[:6]:
                for part in (course, course[:1], course[:-1]):
                    pairs = pairs_of(part)
                    words.append(run(case, pairs)[1][0])
                    days = plain_back_days(case, part, 3)
                    self.assertEqual(back_days(case, pairs, 3), days)
                    for sequence in sequences_of(case):
                        told = [days[scene] for scene in sequence]
                        wanted = None if None in told else max(told)
                        self.assertEqual(cut_day(case, pairs, sequence, 3), wanted)
                    for roll in (60, 90, 120, 999):
                        self.assertEqual(rolls_of(case, pairs, roll), plain_rolls(case, part, roll))
        self.assertGreater(min(words.count(word) for word in ("open", "through", "break")), 50)


class BookTest(FaultTest):
    def test_what_is_told(self):
        case = (*CASE[:4], (1, 0, 0, 20), CASE[5])
        # Behind rain on the first day all the rest is shot on the second one.
        self.assertEqual(cut_days(case, BOOK, (0,), 0), (0, 0))
        self.assertEqual(cut_days(case, BOOK, (1,), 2), (2, 3))
        self.assertEqual(cut_days(case, BOOK, (0, 1, 2), 9), (10, 10))
        self.assertIs(is_ahead(case, BOOK, (0,), (1,)), True)
        self.assertIs(is_ahead(case, BOOK, (1,), (0,)), False)
        self.assertEqual(late_course(case, BOOK, (1,), (0,)), (RAIN,))
        self.assertIs(is_ahead(case, BOOK, (0, 1), (2,)), True)
        self.assertIs(is_ahead(case, BOOK, (2,), (1,)), False)
        self.assertEqual(late_course(case, BOOK, (2,), (1,)), (DRY,))
        self.assertEqual(most_rolls(case, BOOK, 60), 3)
        self.assertEqual(most_rolls(case, BOOK, 110), 2)
        self.assertEqual(most_rolls(case, BOOK, 999), 2)

    def test_errors(self):
        for call in (lambda: cut_days(CASE, (), (0,), 10), lambda: cut_days(CASE, (), (), -1), lambda: cut_days(CASE, BOOK, (0,), 10)):
            self.check_fault("lab", call)
        for bad in ((), (1, 0), (0, 0), (3,), (-1,), (2, 3)):
            for book in ((), BOOK):
                self.check_fault("scenes", lambda: cut_days(CASE, book, bad, 0))
                for call in (is_ahead, late_course):
                    self.check_fault("scenes", lambda: call(CASE, book, bad, (0,)))
                    self.check_fault("scenes", lambda: call(CASE, book, (0,), bad))
        self.check_fault("breaks", lambda: cut_days(CASE, (), (0,), 0))
        self.check_fault("breaks", lambda: is_ahead(CASE, (), (0,), (0,)))
        self.check_fault("breaks", lambda: late_course(CASE, (), (0,), (0,)))
        self.check_fault("ahead", lambda: late_course(CASE, BOOK, (0,), (0,)))
        self.check_fault("ahead", lambda: late_course(CASE, BOOK, (0, 1), (0, 1, 2)))

    def test_small_cases_against_all_courses(self):
        seen = [0, 0]
        for case, book in closing_cases(range(300)):
            courses = all_courses(case, book)
            for sequence in sequences_of(case):
                days = [max(plain_back_days(case, course, 4)[scene] for scene in sequence) for course in courses]
                self.assertEqual(cut_days(case, book, sequence, 4), (min(days), max(days)))
                for course, day in zip(courses, days):
                    self.assertEqual(cut_day(case, pairs_of(course), sequence, 4), day)
            for one, other in itertools.product(sequences_of(case), repeat=2):
                late = self.late_ways(courses, one, other)
                ahead = all(
                    max(days[scene] for scene in one) <= max(days[scene] for scene in other)
                    for days in (plain_back_days(case, course, 0) for course in courses)
                )
                seen[ahead] += 1
                self.assertIs(is_ahead(case, book, one, other), ahead)
                self.assertIs(ahead, not late)
                if late:
                    told = late_course(case, book, one, other)
                    self.assertEqual(told, min(late, key=lambda way: (len(way), key_of(way))))
                else:
                    self.check_fault("ahead", lambda: late_course(case, book, one, other))
        self.assertGreater(min(seen), 200)

    def late_ways(self, courses, one, other):
        """Return the triples to all stands at which all of the other sequence are shot, but not all of one."""
        return [
            tuple(row[2] for row in course[:count + 1]) for course in courses for count, (_, _, _, told) in enumerate(course)
            if set(other) <= set(told[1][1]) and not set(one) <= set(told[1][1])
        ]

    def test_rolls_of_small_cases(self):
        for case, book in closing_cases(range(300)):
            courses = all_courses(case, book)
            for roll in (60, 90, 120, 150, 999):
                counts = [plain_rolls(case, course, roll) for course in courses]
                self.assertEqual(most_rolls(case, book, roll), max(counts))
                self.assertEqual([rolls_of(case, pairs_of(course), roll) for course in courses], counts)

    def test_day_books_that_break(self):
        for number in range(60):
            case, book = small_case(number)
            if explore(case, book)[0] == "breaks":
                self.check_fault("breaks", lambda: most_rolls(case, book, 60))
                self.check_fault("breaks", lambda: cut_days(case, book, (0,), 0))

    def test_arguments_stay_as_they_were(self):
        for case, book in closing_cases(range(60)):
            course = pairs_of(all_courses(case, book)[0])
            kept = repr((case, book, course))
            back_days(case, course, 1)
            cut_day(case, course, (0,), 1)
            cut_days(case, book, (0, 1), 1)
            is_ahead(case, book, (0,), (1,))
            most_rolls(case, book, 600)
            rolls_of(case, course, 600)
            self.assertEqual(repr((case, book, course)), kept)


if __name__ == "__main__":
    unittest.main()
