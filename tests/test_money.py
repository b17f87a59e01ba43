"""Points 901 and 902: fees and costs."""

import itertools
import unittest

from callsheets.calendars import parse_calendar
from callsheets.days import figures_of
from callsheets.errors import CallError, MoneyError
from callsheets.films import parse_film
from callsheets.hours import hours
from callsheets.money import check_fees, cost_of, day_cost

FILM = parse_film("""\
ready 40
place p inside
actor a
actor b
actor c
scene s p any 60 : a b
scene t p any 30 : b
scene u p any 20 :
""")
NOBODY = parse_film("place p inside\nscene s p any 60 :")
CALENDAR = parse_calendar(FILM, "day 0 1440\nday 0 1440")
FREE = (0, ())


def plain_cost(fee, span):
    """Return the cost of a day, with the half hours counted one by one."""
    cost = fee[0]
    for start, pay in fee[1]:
        while start < span:
            cost += pay
            start += 30
    return cost


class CheckTest(unittest.TestCase):
    def check_code(self, code, fees, film=FILM):
        with self.assertRaises(MoneyError) as caught:
            check_fees(film, fees)
        self.assertEqual(caught.exception.code, code)
        self.assertIsInstance(caught.exception, CallError)

    def test_right_fees(self):
        steps = ((0, 0), (1, 99999), (2999, 5), (3000, 0))
        for fees in ((FREE, FREE, FREE), ((99999, steps), FREE, (1, steps[:1])), ((1, steps[3:]), FREE, FREE)):
            self.assertIsNone(check_fees(FILM, fees), fees)
        self.assertIsNone(check_fees(NOBODY, ()))

    def test_many(self):
        self.check_code("many", ())
        self.check_code("many", (FREE, FREE))
        self.check_code("many", (FREE, FREE, FREE, FREE))
        self.check_code("many", (FREE,), NOBODY)

    def test_fee(self):
        self.check_code("fee", (FREE, FREE, (-1, ())))
        self.check_code("fee", ((100000, ()), FREE, FREE))

    def test_steps(self):
        for steps in [
            ((0, 1), (1, 1), (2, 1), (3, 1), (4, 1)), ((-1, 1),), ((3001, 1),), ((5, 1), (5, 2)), ((6, 1), (5, 1)),
            ((1, 1), (2, 1), (3, 1), (3, 1)), ((0, 1), (3001, 1)),
        ]:
            self.check_code("steps", (FREE, (5, steps), FREE))

    def test_pay(self):
        for steps in [((5, -1),), ((5, 100000),), ((0, 1), (5, 100000)), ((0, 1), (1, 2), (2, 3), (3, -1))]:
            self.check_code("pay", (FREE, FREE, (5, steps)))

    def test_the_first_code_that_is_due(self):
        self.check_code("many", ((-1, ((3001, -1),)),))
        self.check_code("fee", ((-1, ((3001, -1),)), FREE, FREE))
        self.check_code("steps", ((1, ((3001, -1),)), FREE, FREE))
        self.check_code("steps", ((1, ((5, -1), (5, 1))), FREE, FREE))
        self.check_code("pay", ((1, ((1, -1),)), (-1, ()), FREE))
        self.check_code("steps", (FREE, (1, ((5, 1), (4, 1))), (-1, ())))
        self.check_code("fee", (FREE, (-1, ()), (1, ((5, 1), (4, 1)))))


class CostTest(unittest.TestCase):
    def test_a_fee_without_steps(self):
        self.assertEqual([day_cost((70, ()), span) for span in (5, 600, 3000)], [70, 70, 70])
        self.assertEqual(day_cost(FREE, 600), 0)

    def test_a_step_at_its_span_and_behind_it(self):
        fee = (100, ((480, 7),))
        for span, cost in (
            (0, 100), (479, 100), (480, 100), (481, 107), (509, 107), (510, 107), (511, 114), (540, 114), (541, 121),
            (3480, 800), (3481, 807),
        ):
            self.assertEqual(day_cost(fee, span), cost, span)

    def test_a_step_at_0(self):
        self.assertEqual([day_cost((0, ((0, 3),)), span) for span in (0, 1, 30, 31, 60, 61)], [0, 3, 3, 6, 6, 9])

    def test_steps_add_up(self):
        fee = (1000, ((300, 1), (330, 10), (345, 100), (400, 1000)))
        for span, cost in (
            (300, 1000), (301, 1001), (330, 1001), (331, 1012), (345, 1012), (346, 1112), (360, 1112),
            (361, 1123), (376, 1223), (400, 1234), (401, 2234), (430, 2345), (431, 3345),
        ):
            self.assertEqual(day_cost(fee, span), cost, span)
            self.assertEqual(plain_cost(fee, span), cost, span)

    def test_against_half_hours_counted_one_by_one(self):
        for steps in itertools.combinations(((0, 1), (29, 2), (30, 3), (61, 5), (150, 7)), 3):
            for span in range(0, 400):
                self.assertEqual(day_cost((11, steps), span), plain_cost((11, steps), span))

    def cost(self, items, fees, call=600, ill=-1, film=FILM):
        rows, _ = hours(film, (call, items, ()), (), ("dry", ill, 0))
        return cost_of(film, CALENDAR, fees, 0, rows)

    def test_only_those_who_work_cost(self):
        fees = ((1, ()), (10, ()), (100, ()))
        self.assertEqual(self.cost((0,), fees), 11)
        self.assertEqual(self.cost((1,), fees), 10)
        self.assertEqual(self.cost((2, -1), fees), 0)
        self.assertEqual(self.cost((), fees), 0)
        self.assertEqual(self.cost((0, 1, 2), fees), 11)
        self.assertEqual(self.cost((0, 1), fees, ill=0), 10)

    def test_nobody_works_for_nothing(self):
        self.assertEqual(cost_of(NOBODY, CALENDAR, (), 0, ((0, 600, 660),)), 0)

    def test_each_one_has_a_span(self):
        # The span of a is 100, that of b 150 with the meal and the scene behind it.
        fees = ((1000, ((70, 1),)), (5000, ((70, 10),)), (9, ((0, 100),)))
        self.assertEqual(self.cost((0, -1, 1), fees), 1001 + 5030)
        self.assertEqual(self.cost((0, -1, 1), fees, call=39), 1001 + 5030)
        # The call is not below 0, and so the span is shorter.
        self.assertEqual(self.cost((0, -1, 1), fees, call=10), 1000 + 5020)

    def test_the_cost_is_the_sum_over_the_actors(self):
        fees = ((7, ((0, 1), (90, 10))), (11, ((100, 3),)), (13, ()))
        for items in itertools.permutations((0, 1, 2, -1), 3):
            for call in (0, 30, 700):
                rows, _ = hours(FILM, (call, items, ()), (), ("dry", -1, 0))
                spans = [figures_of(FILM, CALENDAR, 0, rows, actor, (-1, 0)) for actor in range(3)]
                costs = [plain_cost(fees[k], spans[k][2]) for k in range(3) if spans[k]]
                self.assertEqual(cost_of(FILM, CALENDAR, fees, 0, rows), sum(costs))

    def test_arguments_stay_as_they_were(self):
        given = (FILM, CALENDAR, ((1, ((0, 1),)), FREE, FREE), 0, ((0, 600, 660),))
        kept = repr(given)
        cost_of(*given)
        check_fees(FILM, given[2])
        day_cost(given[2][0], 500)
        self.assertEqual(repr(given), kept)


if __name__ == "__main__":
    unittest.main()
