"""Point 604: courses."""

import itertools
import unittest

from small_cases import small_case

from callsheets.calendars import parse_calendar
from callsheets.courses import run
from callsheets.errors import CaseError
from callsheets.films import parse_film
from callsheets.stands import first_stand, is_through, natures, step

FILM = parse_film("""\
ready 60
place hut inside
actor ann
scene a hut any 60 : ann
scene b hut any 30 : ann
order a b
""")
MENU = (((600, (0,), (0, 1)), (600, (1,), (1,))), ((480, (1,), (1,)), (480, (0, 1), ())))
CASE = (FILM, parse_calendar(FILM, "day 400 1000\nday 400 1000"), (), MENU, (1, 1, 1, 20), ((100, ((100, 7),)),))
FIRST = (0, (), ((-1, 0),), (0, 0, 0))
DRY = ("dry", -1, 0)
RAIN = ("rain", -1, 0)


class RunTest(unittest.TestCase):
    def check_code(self, code, course):
        with self.assertRaises(CaseError) as caught:
            run(CASE, course)
        self.assertEqual(caught.exception.code, code)

    def test_an_empty_course(self):
        self.assertEqual(run(CASE, ()), ((FIRST,), ("open", 0)))

    def test_open(self):
        stand = (1, (0,), ((660, 1),), (0, 0, 0))
        self.assertEqual(run(CASE, ((0, DRY),)), ((FIRST, stand), ("open", 107)))

    def test_through(self):
        stand = (1, (0, 1), ((690, 1),), (1, 0, 0))
        self.assertEqual(run(CASE, ((0, RAIN),)), ((FIRST, stand), ("through", 114)))
        one, two = (1, (0,), ((660, 1),), (0, 0, 0)), (2, (0, 1), ((510, 2),), (0, 0, 0))
        self.assertEqual(run(CASE, ((0, DRY), (0, DRY))), ((FIRST, one, two), ("through", 207)))

    def test_break(self):
        self.assertEqual(run(CASE, ((1, DRY),)), ((FIRST,), ("break", ("order", 1))))
        stand = (1, (0,), ((660, 1),), (0, 0, 0))
        self.assertEqual(run(CASE, ((0, DRY), (1, RAIN))), ((FIRST, stand), ("break", ("end", 1))))

    def test_what_is_behind_a_break_is_left_aside(self):
        wanted = ((FIRST,), ("break", ("order", 1)))
        for more in (((0, DRY),), ((9, DRY), (0, DRY)), ((0, ("snow", 7, 3)),) * 4):
            self.assertEqual(run(CASE, ((1, DRY), *more)), wanted)

    def test_pairs_behind_a_stand_that_is_through(self):
        self.check_code("through", ((0, RAIN), (0, DRY)))
        self.check_code("through", ((0, RAIN), (9, ("snow", 7, 3))))
        self.check_code("through", ((0, DRY), (0, DRY), (0, DRY)))

    def test_errors_of_steps_at_their_places(self):
        self.check_code("sheet", ((2, DRY),))
        self.check_code("sheet", ((-1, DRY),))
        self.check_code("sheet", ((0, DRY), (2, RAIN)))
        self.check_code("nature", ((0, ("rain", 1, 0)),))
        self.check_code("nature", ((0, ("dry", -1, 30)),))
        self.check_code("nature", ((0, ("dry", 0, 0)), (0, ("dry", 0, 0))))
        # The first of two.
        self.check_code("nature", ((0, ("dry", -1, 30)), (9, DRY)))
        self.check_code("sheet", ((9, ("dry", -1, 30)), (0, DRY)))

    def test_no_day_is_behind_the_last_one(self):
        # Where the last day ends without all scenes the course breaks, so "day" is never due.
        self.assertEqual(run(CASE, ((0, ("dry", 0, 0)), (0, DRY), (0, DRY)))[1], ("break", ("order", 1)))
        self.assertEqual(run(CASE, ((0, DRY), (1, RAIN), (0, DRY)))[1], ("break", ("end", 1)))

    def test_all_courses_of_small_cases(self):
        ends = set()
        for number in range(12):
            case, _ = small_case(number)
            waiting = [((), (first_stand(case),), 0)]
            while waiting:
                course, stands, cost = waiting.pop()
                through = is_through(case, stands[-1])
                self.assertEqual(run(case, course), (stands, ("through" if through else "open", cost)))
                if through:
                    ends.add("through")
                    continue
                numbers = range(len(case[3][len(course)]))
                for number, nature in itertools.product(numbers, natures(case, stands[-1])):
                    told = step(case, stands[-1], number, nature)
                    longer = (*course, (number, nature))
                    if told[0] == "break":
                        ends.add("break")
                        self.assertEqual(run(case, longer), (stands, told))
                    else:
                        waiting.append((longer, (*stands, told[1]), cost + told[2]))
        self.assertEqual(ends, {"through", "break"})

    def test_arguments_stay_as_they_were(self):
        given = (CASE, ((0, DRY), (0, DRY)))
        kept = repr(given)
        run(*given)
        self.assertEqual(repr(given), kept)


if __name__ == "__main__":
    unittest.main()
