"""Points 602 and 603: stands, what nature may choose, and steps."""

import itertools
import unittest

from callsheets.calendars import parse_calendar
from callsheets.cases import check_case
from callsheets.days import breaks, figures_of
from callsheets.errors import CallError, CaseError
from callsheets.films import parse_film
from callsheets.hours import hours
from callsheets.money import cost_of
from callsheets.ruletext import parse_rules
from callsheets.stands import first_stand, is_through, natures, step

FILM = parse_film("""\
ready 60
meal 30
place hut inside
place bay outside
actor ann
actor ben
scene a hut any 60 : ann
scene b bay any 90 dry : ben
scene c hut day 30 : ann ben
order a c
""")
CALENDAR = parse_calendar(FILM, "day 400 1000\nday 400 1000\nday 400 1000")
RULES = parse_rules(FILM, "rule rest all : rest >= 700\nrule row ben : row < 2")
MENU = (
    ((600, (0, 1), (0,)), (500, (0, -1, 2), (2,)), (400, (), ())),
    ((480, (1, 2), (2,)), (600, (0, 1, 2), (-1,))),
    ((480, (0, 1, 2), (0, 2, 1)),),
)
FEES = ((100, ((100, 7),)), (10, ()))
CASE = (FILM, CALENDAR, RULES, MENU, (1, 1, 1, 20), FEES)
FIRST = (0, (), ((-1, 0), (-1, 0)), (0, 0, 0))
DRY = ("dry", -1, 0)


def with_bounds(*bounds):
    return CASE[:4] + (bounds, FEES)


def plain_natures(case, stand):
    """Return the triples of point 602, by a sort of all that there could be."""
    *bounds, minutes = case[4]
    told = []
    for weather, ill, late in itertools.product(("rain", "dry"), range(len(case[0][1]), -2, -1), (minutes, 0)):
        if ill == len(case[0][1]):
            continue
        days = [weather == "rain", ill >= 0, late > 0]
        if all(days[k] + stand[3][k] <= bounds[k] for k in range(3)):
            told.append((sum(days), weather == "rain", ill, late, (weather, ill, late)))
    return [row[-1] for row in sorted(told)]


class StandTest(unittest.TestCase):
    def test_the_case_is_right(self):
        self.assertIsNone(check_case(CASE))

    def test_first_stand(self):
        self.assertEqual(first_stand(CASE), FIRST)
        film = parse_film("place p inside\nscene s p any 5 :")
        self.assertEqual(first_stand((film,) + CASE[1:]), (0, (), (), (0, 0, 0)))

    def test_is_through(self):
        self.assertIs(is_through(CASE, FIRST), False)
        self.assertIs(is_through(CASE, (1, (0, 1), FIRST[2], (0, 0, 0))), False)
        self.assertIs(is_through(CASE, (1, (0, 1, 2), FIRST[2], (0, 0, 0))), True)
        self.assertIs(is_through(CASE, (3, (0, 1, 2), ((700, 3), (-1, 0)), (1, 0, 1))), True)
        self.assertIs(is_through(CASE, (3, (0, 2), FIRST[2], (0, 0, 0))), False)


class NatureTest(unittest.TestCase):
    def test_all_of_bounds_of_1(self):
        self.assertEqual(natures(CASE, FIRST), [
            ("dry", -1, 0),
            ("dry", -1, 20), ("dry", 0, 0), ("dry", 1, 0), ("rain", -1, 0),
            ("dry", 0, 20), ("dry", 1, 20), ("rain", -1, 20), ("rain", 0, 0), ("rain", 1, 0),
            ("rain", 0, 20), ("rain", 1, 20),
        ])

    def test_bounds_of_0(self):
        self.assertEqual(natures(with_bounds(0, 0, 0, 20), FIRST), [DRY])
        self.assertEqual(natures(with_bounds(1, 0, 0, 20), FIRST), [DRY, ("rain", -1, 0)])
        self.assertEqual(natures(with_bounds(0, 2, 0, 20), FIRST), [DRY, ("dry", 0, 0), ("dry", 1, 0)])
        self.assertEqual(natures(with_bounds(0, 0, 3, 5), FIRST), [DRY, ("dry", -1, 5)])

    def test_what_is_used_already(self):
        self.assertEqual(natures(CASE, (2, (), FIRST[2], (1, 1, 1))), [DRY])
        self.assertEqual(natures(CASE, (2, (), FIRST[2], (1, 0, 1))), [DRY, ("dry", 0, 0), ("dry", 1, 0)])
        self.assertEqual(len(natures(with_bounds(2, 3, 2, 20), (1, (), FIRST[2], (1, 2, 1)))), 12)

    def test_all_bounds_and_all_that_is_used(self):
        for bounds in itertools.product(range(4), repeat=3):
            case = with_bounds(*bounds, 60)
            for used in itertools.product(*[range(most + 1) for most in bounds]):
                stand = (1, (0,), FIRST[2], used)
                self.assertEqual(natures(case, stand), plain_natures(case, stand))

    def test_the_list_is_a_new_one(self):
        natures(CASE, FIRST).clear()
        self.assertEqual(len(natures(CASE, FIRST)), 12)


class StepTest(unittest.TestCase):
    def check_code(self, code, stand, number=0, nature=DRY, case=CASE):
        with self.assertRaises(CaseError) as caught:
            step(case, stand, number, nature)
        self.assertEqual(caught.exception.code, code)
        self.assertIsInstance(caught.exception, CallError)

    def test_to_a_stand(self):
        # ann is there from 540 to 660, ben from 630 to 780; a step of ann's fee is begun.
        self.assertEqual(step(CASE, FIRST, 0, DRY), ("stand", (1, (0, 1), ((660, 1), (780, 1)), (0, 0, 0)), 117))
        self.assertEqual(step(CASE, FIRST, 1, DRY), ("stand", (1, (0, 2), ((620, 1), (620, 1)), (0, 0, 0)), 131))

    def test_a_day_on_which_nothing_is_shot(self):
        stand = (1, (0,), ((700, 1), (-1, 0)), (0, 0, 0))
        self.assertEqual(step(CASE, stand, 1, ("rain", -1, 0)), ("stand", (2, (0,), ((-1, 0), (-1, 0)), (1, 0, 0)), 0))
        self.assertEqual(step(CASE, FIRST, 2, DRY), ("stand", (1, (), ((-1, 0), (-1, 0)), (0, 0, 0)), 0))

    def test_what_nature_used_is_added(self):
        for nature, used in (
            (("rain", -1, 0), (1, 0, 0)), (("dry", 1, 0), (0, 1, 0)), (("dry", 0, 0), (0, 1, 0)),
            (("dry", -1, 20), (0, 0, 1)), (("rain", 1, 20), (1, 1, 1)),
        ):
            self.assertEqual(step(CASE, FIRST, 2, nature)[1][3], used)
        case = with_bounds(3, 3, 3, 20)
        stand = FIRST[:3] + ((2, 0, 1),)
        self.assertEqual(step(case, stand, 2, ("rain", 0, 20))[1][3], (3, 1, 2))

    def test_who_is_ill_does_not_work(self):
        self.assertEqual(step(CASE, FIRST, 0, ("dry", 1, 0)), ("stand", (1, (0,), ((660, 1), (-1, 0)), (0, 1, 0)), 107))
        self.assertEqual(step(CASE, FIRST, 0, ("dry", 0, 0)), ("stand", (1, (1,), ((-1, 0), (690, 1)), (0, 1, 0)), 10))

    def test_late(self):
        self.assertEqual(
            step(CASE, FIRST, 0, ("rain", -1, 20)), ("stand", (1, (0,), ((680, 1), (-1, 0)), (1, 0, 1)), 107)
        )

    def test_through(self):
        stand = (1, (0, 1), ((660, 1), (-1, 0)), (0, 0, 0))
        self.assertEqual(step(CASE, stand, 0, DRY), ("stand", (2, (0, 1, 2), ((510, 2), (510, 1)), (0, 0, 0)), 110))

    def test_shot_scenes_are_ascending(self):
        stand = (1, (1,), ((-1, 0), (-1, 0)), (0, 0, 0))
        self.assertEqual(step(CASE, stand, 1, DRY)[1][1], (0, 1, 2))

    def test_a_break(self):
        self.assertEqual(step(CASE, FIRST, 1, ("rain", -1, 0)), ("break", ("order", 2)))
        self.assertEqual(step(CASE, FIRST, 1, ("dry", 0, 0)), ("stand", (1, (), FIRST[2], (0, 1, 0)), 0))
        stand = (1, (0,), ((1171, 1), (-1, 0)), (0, 0, 0))
        self.assertEqual(step(CASE, stand, 0, DRY)[0], "stand")
        stand = (1, (0,), ((1200, 1), (1200, 1)), (0, 0, 0))
        self.assertEqual(step(CASE, stand, 0, DRY), ("break", ("rule", 1, 0)))
        stand = (1, (0,), ((-1, 0), (800, 1)), (0, 0, 0))
        self.assertEqual(step(CASE, stand, 0, DRY), ("break", ("rule", 1, 1)))

    def test_the_end(self):
        stand = (2, (0,), FIRST[2], (0, 0, 0))
        self.assertEqual(step(CASE, stand, 0, ("dry", 1, 0)), ("break", ("end", 1)))
        self.assertEqual(step(CASE, (2, (), FIRST[2], (0, 0, 0)), 0, ("dry", 0, 0)), ("break", ("end", 0)))
        self.assertEqual(step(CASE, (2, (0, 1), FIRST[2], (0, 0, 0)), 0, ("dry", 0, 0)), ("break", ("end", 2)))
        self.assertEqual(step(CASE, stand, 0, DRY)[:2], ("stand", (3, (0, 1, 2), ((630, 1), (630, 1)), (0, 0, 0))))

    def test_what_the_day_breaks_comes_ahead_of_the_end(self):
        self.assertEqual(step(CASE, (2, (), FIRST[2], (0, 0, 0)), 0, ("rain", -1, 0)), ("break", ("wet", 1)))

    def test_codes(self):
        through = (1, (0, 1, 2), FIRST[2], (0, 0, 0))
        self.check_code("through", through)
        self.check_code("day", (3, (0,), FIRST[2], (0, 0, 0)))
        self.check_code("day", (4, (), FIRST[2], (0, 0, 0)))
        for number in (-1, 3, 6, 99):
            self.check_code("sheet", FIRST, number)
        self.check_code("sheet", (2, (), FIRST[2], (0, 0, 0)), 1)
        for nature in (
            ("dry", 2, 0), ("dry", -2, 0), ("dry", -1, 19), ("dry", -1, 40), ("dry", -1, -20), ("snow", -1, 0),
            ("rain", -1, 5),
        ):
            self.check_code("nature", FIRST, 0, nature)

    def test_nature_has_used_all(self):
        for used, nature in (((1, 0, 0), ("rain", -1, 0)), ((0, 1, 0), ("dry", 0, 0)), ((0, 0, 1), ("dry", -1, 20))):
            self.check_code("nature", (1, (), FIRST[2], used), 0, nature)
            self.check_code("nature", (1, (), FIRST[2], (1, 1, 1)), 0, nature)
        self.check_code("nature", FIRST, 0, ("rain", -1, 0), with_bounds(0, 1, 1, 20))

    def test_the_first_code_that_is_due(self):
        self.check_code("through", (3, (0, 1, 2), FIRST[2], (0, 0, 0)), 9, ("snow", -1, 0))
        self.check_code("day", (3, (0,), FIRST[2], (0, 0, 0)), 9, ("snow", -1, 0))
        self.check_code("sheet", FIRST, 9, ("snow", -1, 0))

    def test_all_steps_against_what_they_are_made_of(self):
        stands = [FIRST]
        while stands:
            stand = stands.pop()
            for number, nature in itertools.product(range(len(MENU[stand[0]])), natures(CASE, stand)):
                told = step(CASE, stand, number, nature)
                self.check_step(stand, number, nature, told)
                if told[0] == "stand" and not is_through(CASE, told[1]):
                    stands.append(told[1])

    def check_step(self, stand, number, nature, told):
        day, shot, befores, used = stand
        sheet = MENU[day][number]
        rows, _ = hours(FILM, sheet, shot, nature)
        what = breaks(FILM, CALENDAR, RULES, day, sheet, shot, befores, nature)
        done = tuple(sorted(set(shot) | {row[0] for row in rows} - {-1}))
        if what is None and day == 2 and len(done) < 3:
            what = ("end", min({0, 1, 2} - set(done)))
        if what is not None:
            self.assertEqual(told, ("break", what))
            return
        pairs = []
        for actor in range(2):
            figures = figures_of(FILM, CALENDAR, day, rows, actor, befores[actor])
            pairs.append((figures[1], figures[5]) if figures else (-1, 0))
        after = (used[0] + (nature[0] == "rain"), used[1] + (nature[1] != -1), used[2] + (nature[2] != 0))
        cost = cost_of(FILM, CALENDAR, FEES, day, rows)
        self.assertEqual(told, ("stand", (day + 1, done, tuple(pairs), after), cost))

    def test_arguments_stay_as_they_were(self):
        given = (CASE, FIRST, 0, ("rain", -1, 20))
        kept = repr(given)
        step(*given)
        natures(CASE, FIRST)
        first_stand(CASE)
        self.assertEqual(repr(given), kept)


if __name__ == "__main__":
    unittest.main()
