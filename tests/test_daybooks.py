"""Points 702 to 704: what day books choose, whether they close, and what they cost."""

import time
import unittest

from small_cases import small_case

from callsheets.booktext import parse_book
from callsheets.calendars import parse_calendar
from callsheets.daybooks import choice, explore, reserve
from callsheets.errors import CallError, CaseError, LargeError
from callsheets.films import parse_film
from callsheets.stands import first_stand, is_through, natures, step

FILM = parse_film("""\
ready 60
place hut inside
place bay outside
actor ann
actor ben
scene a hut any 60 : ann
scene b bay any 90 dry : ben
scene c hut day 30 : ann ben
order a c
""")
CALENDAR = parse_calendar(FILM, "day 400 1000\nday 400 1000\nday 400 1000")
MENU = (
    ((600, (0, 1), (0,)), (500, (1,), (2,)), (400, (), ())),
    ((480, (1, 2), (2,)), (600, (0, 1, 2), (0, 2)), (600, (1,), ())),
    ((480, (0, 1, 2), (0, 2)),),
)
FEES = ((100, ((100, 7),)), (10, ()))
DRY, RAIN, LATE = ("dry", -1, 0), ("rain", -1, 0), ("dry", -1, 20)
FIRST = (0, (), ((-1, 0), (-1, 0)), (0, 0, 0))


def case_of(*bounds):
    return (FILM, CALENDAR, (), MENU, (*bounds, 20), FEES)


def book_of(text):
    return parse_book(case_of(0, 0, 0), text)


def key_of(triples):
    """Return by what rows of triples are compared in the order of point 602."""
    return [((w == "rain") + (ill >= 0) + (late > 0), w == "rain", ill, late) for w, ill, late in triples]


def plain_search(case, book):
    """Return all stands, all breaks, and the costs of all courses that are through, course by course."""
    stands, breaks, costs = set(), [], []
    waiting = [(first_stand(case), (), 0)]
    while waiting:
        stand, triples, cost = waiting.pop()
        stands.add(stand)
        if is_through(case, stand):
            costs.append(cost)
            continue
        number = choice(book, stand)
        if number is None:
            breaks.append((len(triples), 1, key_of(triples), triples, ("none", stand[0])))
            continue
        for nature in natures(case, stand):
            told = step(case, stand, number, nature)
            way = (*triples, nature)
            if told[0] == "break":
                breaks.append((len(way), 0, key_of(way), way, told[1]))
            else:
                waiting.append((told[1], way, cost + told[2]))
    return stands, sorted(breaks), costs


class ChoiceTest(unittest.TestCase):
    def test_lines_of_the_day(self):
        book = book_of("day 0 : 2\nday 1 : 1\nday 0 : 0")
        self.assertEqual(choice(book, FIRST), 2)
        self.assertEqual(choice(book, (1, (), FIRST[2], (0, 0, 0))), 1)
        self.assertIsNone(choice(book, (2, (), FIRST[2], (0, 0, 0))))
        self.assertIsNone(choice((), FIRST))

    def test_the_first_line_whose_test_is_true(self):
        book = book_of("day 1 if shot a : 0\nday 1 if worked ben : 1\nday 1 : 2\nday 1 if shot b : 0")
        for shot, befores, number in (
            ((0,), ((-1, 0), (700, 1)), 0), ((), ((-1, 0), (700, 1)), 1), ((1,), ((700, 1), (-1, 0)), 2),
            ((0, 1), ((700, 1), (0, 1)), 0), ((), ((-1, 0), (0, 1)), 1),
        ):
            self.assertEqual(choice(book, (1, shot, befores, (0, 0, 0))), number)

    def test_no_test_is_true(self):
        book = book_of("day 0 if shot a : 0\nday 0 if rains > 0 : 1")
        self.assertIsNone(choice(book, FIRST))
        self.assertEqual(choice(book, FIRST[:3] + ((1, 0, 0),)), 1)

    def test_a_line_without_a_test_hides_those_behind_it(self):
        self.assertEqual(choice(book_of("day 0 : 1\nday 0 if rains = 0 : 2"), FIRST), 1)

    def test_each_kind_of_test(self):
        stand = (1, (0, 2), ((900, 1), (-1, 0)), (2, 0, 1))
        for text, value in (
            ("shot a", True), ("shot b", False), ("worked ann", True), ("worked ben", False),
            ("rains = 2", True), ("rains = 0", False), ("ills = 0", True), ("ills > 0", False), ("lates = 1", True),
            ("rains < 3", True), ("rains < 2", False), ("rains <= 2", True), ("rains <= 1", False),
            ("rains > 1", True), ("rains > 2", False), ("rains >= 2", True), ("rains >= 3", False),
            ("rains != 1", True), ("lates != 1", False), ("lates >= 2", False),
            ("not shot a", False), ("not shot b", True), ("shot a and shot c", True), ("shot a and shot b", False),
            ("shot b and shot a", False), ("shot a or shot b", True), ("shot b or shot a", True),
            ("shot b or worked ben", False), ("shot a then shot b", False), ("shot b then shot a", True),
            ("shot b then worked ben", True), ("shot a then worked ann", True),
            ("not ( shot a and not worked ben )", False), ("shot b and shot b or shot a", True),
        ):
            self.assertEqual(choice(book_of(f"day 1 if {text} : 1\nday 1 : 0"), stand), 1 if value else 0, text)


class ExploreTest(unittest.TestCase):
    def test_a_day_book_that_closes(self):
        case = case_of(1, 0, 0)
        book = book_of("day 0 : 0\nday 1 if rains = 0 : 0\nday 1 : 1\nday 2 : 0")
        told = explore(case, book)
        self.assertEqual(told, ("closes", (
            FIRST,
            (1, (0,), ((660, 1), (-1, 0)), (1, 0, 0)),
            (1, (0, 1), ((660, 1), (780, 1)), (0, 0, 0)),
            (2, (0, 1, 2), ((510, 2), (510, 2)), (0, 0, 0)),
            (2, (0, 1, 2), ((510, 2), (510, 2)), (1, 0, 0)),
            (2, (0, 1, 2), ((750, 2), (750, 1)), (1, 0, 0)),
        )))
        self.assertEqual(list(told[1]), sorted(told[1]))

    def test_a_step_that_breaks(self):
        book = book_of("day 0 : 1\nday 1 : 2\nday 2 : 0")
        self.assertEqual(explore(case_of(1, 0, 0), book), ("breaks", (RAIN,), ("order", 2)))
        self.assertEqual(explore(case_of(0, 0, 1), book)[0], "closes")
        self.assertEqual(
            explore(case_of(0, 1, 0), book), ("breaks", (DRY, DRY, ("dry", 0, 0)), ("end", 0))
        )

    def test_fewer_triples_come_first(self):
        # The first day breaks something only by a day of rain; without it, the second one does at once.
        book = book_of("day 0 : 1\nday 1 if rains = 0 : 0\nday 2 : 0")
        self.assertEqual(explore(case_of(1, 0, 0), book), ("breaks", (RAIN,), ("order", 2)))
        self.assertEqual(explore(case_of(0, 0, 0), book), ("breaks", (DRY, DRY), ("order", 2)))

    def test_no_sheet(self):
        self.assertEqual(explore(case_of(1, 1, 1), ()), ("breaks", (), ("none", 0)))
        self.assertEqual(explore(case_of(1, 0, 0), book_of("day 0 : 2\nday 2 : 0")), ("breaks", (DRY,), ("none", 1)))
        book = book_of("day 0 : 2\nday 1 if rains = 0 : 1\nday 2 : 0")
        self.assertEqual(explore(case_of(1, 0, 0), book), ("breaks", (RAIN,), ("none", 1)))

    def test_steps_that_break_come_ahead_of_stands_without_a_sheet(self):
        # By one dry day the book comes to a stand without a sheet, by one with rain a step breaks.
        book = book_of("day 0 : 1\nday 2 : 0")
        self.assertEqual(explore(case_of(1, 0, 0), book), ("breaks", (RAIN,), ("order", 2)))
        self.assertEqual(explore(case_of(0, 0, 0), book), ("breaks", (DRY,), ("none", 1)))
        # A stand without a sheet needs one triple less than the step would.
        book = book_of("day 0 : 2\nday 1 if rains = 0 and lates = 0 : 0\nday 2 : 0")
        self.assertEqual(explore(case_of(1, 0, 1), book), ("breaks", (LATE,), ("none", 1)))

    def test_the_first_triples_in_their_order(self):
        book = book_of("day 0 : 1\nday 1 : 0\nday 2 : 0")
        self.assertEqual(explore(case_of(1, 1, 1), book), ("breaks", (RAIN,), ("order", 2)))
        book = book_of("day 0 : 2\nday 1 : 2\nday 2 : 0")
        # In the first course in the order everything is shot; what is ahead in it is compared first.
        self.assertEqual(explore(case_of(0, 1, 1), book)[:2], ("breaks", (DRY, DRY, ("dry", 0, 0))))
        book = book_of("day 0 : 2\nday 1 if lates = 0 and rains = 0 : 1\nday 2 : 0")
        self.assertEqual(explore(case_of(1, 0, 1), book), ("breaks", (LATE,), ("none", 1)))

    def test_the_end(self):
        book = book_of("day 0 : 0\nday 1 : 2\nday 2 : 0")
        self.assertEqual(explore(case_of(0, 1, 0), book), ("breaks", (DRY, DRY, ("dry", 0, 0)), ("end", 2)))

    def test_small_cases_against_all_courses(self):
        closed = broken = 0
        for number in range(500):
            case, book = small_case(number)
            stands, breaks, costs = plain_search(case, book)
            if breaks:
                broken += 1
                self.assertEqual(explore(case, book), ("breaks", *breaks[0][3:]), number)
                with self.assertRaises(CaseError) as caught:
                    reserve(case, book)
                self.assertEqual(caught.exception.code, "breaks")
            else:
                closed += 1
                self.assertEqual(explore(case, book), ("closes", tuple(sorted(stands))), number)
                self.assertEqual(reserve(case, book), max(costs), number)
        self.assertGreater(min(closed, broken), 100)

    def test_arguments_stay_as_they_were(self):
        for number in range(30):
            given = small_case(number)
            kept = repr(given)
            told = explore(*given)
            if told[0] == "closes":
                reserve(*given)
            choice(given[1], first_stand(given[0]))
            self.assertEqual(repr(given), kept)


class ReserveTest(unittest.TestCase):
    def test_the_greatest_cost(self):
        book = book_of("day 0 : 0\nday 1 if rains = 0 : 0\nday 1 : 1\nday 2 : 0")
        case = case_of(1, 0, 0)
        self.assertEqual(reserve(case, book), max(plain_search(case, book)[2]))
        # 117 for the first day, and ann and ben work on the second one, too.
        self.assertEqual(reserve(case_of(0, 0, 0), book), 117 + 110)

    def test_breaks(self):
        with self.assertRaises(CaseError) as caught:
            reserve(case_of(1, 0, 0), ())
        self.assertEqual(caught.exception.code, "breaks")
        self.assertIsInstance(caught.exception, CallError)


class LimitTest(unittest.TestCase):
    """What nature used alone tells the stands apart, and one scene at one of them."""

    def setUp(self):
        film = parse_film("place p inside\n" + "".join(f"actor a{k}\n" for k in range(5))
                          + "scene main p any 60 :\nscene side p any 60 :")
        menu = (((600, (), ()), (600, (0, 1), (0, 1)), (600, (1,), (1,))),) * 10
        self.case = (film, parse_calendar(film, "day 400 1000\n" * 10), (), menu, (3, 2, 3, 20), ((1, ()),) * 5)

    def book(self, day, last=1):
        """Return a day book of 4999 steps, with one more for each day from the told one up to day 8."""
        empty = "".join(f"day {k} : 0\n" for k in range(9))
        return parse_book(self.case, f"""\
day 3 if rains = 0 and ills = 0 and lates = 0 : 1
day {day} if rains = 3 and ills = 2 and lates = 3 : 2
day 9 if rains = 3 and ills = 2 and lates = 3 and shot side : {last}
day 9 : 1
{empty}""")

    def steps_of(self, book):
        """Return how many steps there are, stand by stand."""
        steps, seen, waiting = 0, set(), [first_stand(self.case)]
        while waiting:
            stand = waiting.pop()
            if stand in seen or is_through(self.case, stand):
                continue
            seen.add(stand)
            for nature in natures(self.case, stand):
                steps += 1
                told = step(self.case, stand, choice(book, stand), nature)
                if told[0] == "stand":
                    waiting.append(told[1])
        return steps

    def check_large(self, call, book):
        with self.assertRaises(LargeError) as caught:
            call(self.case, book)
        self.assertEqual(caught.exception.code, "large")
        self.assertIsInstance(caught.exception, CallError)

    def test_at_the_limit(self):
        book = self.book(8)
        self.assertEqual(self.steps_of(book), 5000)
        begun = time.monotonic()
        told = explore(self.case, book)
        self.assertEqual(told[0], "closes")
        self.assertEqual(len(told[1]), len(set(told[1])))
        self.assertEqual(reserve(self.case, book), 0)
        self.assertLess(time.monotonic() - begun, 30)

    def test_above_the_limit(self):
        book = self.book(7)
        self.assertEqual(self.steps_of(book), 5001)
        self.check_large(explore, book)
        self.check_large(reserve, book)

    def test_breaks_do_not_matter_to_the_limit(self):
        book = self.book(8, last=0)
        self.assertEqual(self.steps_of(book), 5000)
        told = explore(self.case, book)
        self.assertEqual((told[0], len(told[1]), told[2]), ("breaks", 10, ("end", 0)))
        book = self.book(7, last=0)
        self.assertEqual(self.steps_of(book), 5001)
        self.check_large(explore, book)
        self.check_large(reserve, book)


if __name__ == "__main__":
    unittest.main()
