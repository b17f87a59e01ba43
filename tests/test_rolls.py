"""Point 1201: takes on rolls of film."""

import itertools
import random
import time
import unittest

from callsheets.errors import CallError, StockError
from callsheets.rolls import fewest_rolls, in_order, short_ends, takes_rolls


def plain_rolls(takes, roll):
    """Return all tuples that put takes on rolls, the numbers being those of rolls that can be needed."""
    for rolls in itertools.product(range(len(takes)), repeat=len(takes)):
        if all(sum(take for take, other in zip(takes, rolls) if other == number) <= roll for number in rolls):
            yield rolls


def plain_fewest(takes, roll):
    return min((len(set(rolls)), rolls) for rolls in plain_rolls(takes, roll))[1]


def random_takes(source, most):
    roll = source.choice((1, 7, 10, 25, 100, 999))
    return tuple(source.randint(1, source.choice((roll, roll // 2 + 1))) for _ in range(source.randint(0, most))), roll


class InOrderTest(unittest.TestCase):
    def test_one_after_the_other(self):
        self.assertEqual(in_order((), 10), ())
        self.assertEqual(in_order((10,), 10), (0,))
        self.assertEqual(in_order((4, 6, 1), 10), (0, 0, 1))
        self.assertEqual(in_order((4, 7, 3, 6, 6, 4), 10), (0, 1, 1, 2, 3, 3))
        # There would be room on the first roll for the last one.
        self.assertEqual(in_order((4, 7, 4), 10), (0, 1, 2))
        self.assertEqual(in_order((1,) * 12, 1), tuple(range(12)))
        self.assertEqual(in_order((999, 1, 998), 999), (0, 1, 1))

    def test_no_other_way_in_order_needs_fewer(self):
        source = random.Random(1)
        for _ in range(60):
            takes, roll = random_takes(source, 6)
            told = in_order(takes, roll)
            self.assertIs(takes_rolls(takes, roll, told), True)
            ways = [rolls for rolls in plain_rolls(takes, roll) if list(rolls) == sorted(rolls)]
            self.assertEqual(max(told, default=-1) + 1, min(len(set(rolls)) for rolls in ways))


class FewestTest(unittest.TestCase):
    def test_what_is_told(self):
        self.assertEqual(fewest_rolls((), 10), ())
        self.assertEqual(fewest_rolls((10,), 10), (0,))
        self.assertEqual(fewest_rolls((4, 7, 4), 10), (0, 1, 0))
        # The first two would have room on one roll, but then three are needed.
        self.assertEqual(fewest_rolls((3, 4, 6, 7), 10), (0, 1, 1, 0))
        self.assertEqual(fewest_rolls((5, 5, 4, 6, 3, 7), 10), (0, 0, 1, 1, 2, 2))

    def test_against_all_tuples(self):
        source = random.Random(2)
        for _ in range(100):
            takes, roll = random_takes(source, 6)
            self.assertEqual(fewest_rolls(takes, roll), plain_fewest(takes, roll), (takes, roll))
        for takes in itertools.product(range(1, 6), repeat=4):
            self.assertEqual(fewest_rolls(takes, 5), plain_fewest(takes, 5), takes)

    def test_twelve_takes(self):
        source = random.Random(3)
        begun = time.monotonic()
        for _ in range(20):
            takes = tuple(source.randint(100, 500) for _ in range(12))
            told = fewest_rolls(takes, 999)
            self.assertIs(takes_rolls(takes, 999, told), True)
            self.assertGreaterEqual((max(told) + 1) * 999, sum(takes))
            self.assertLessEqual(max(told), max(in_order(takes, 999)))
        self.assertEqual(fewest_rolls((1,) * 12, 1), tuple(range(12)))
        self.assertEqual(fewest_rolls((1,) * 12, 12), (0,) * 12)
        self.assertEqual(fewest_rolls((5, 4, 3) * 4, 12), (0, 0, 0) + (1, 1, 1) + (2, 2, 2) + (3, 3, 3))
        # Two of the great ones on a roll would make it five.
        self.assertEqual(fewest_rolls((6,) * 4 + (4,) * 8, 14), (0, 1, 2, 3, 0, 0, 1, 1, 2, 2, 3, 3))
        self.assertLess(time.monotonic() - begun, 30)


class TakesRollsTest(unittest.TestCase):
    def test_what_is_taken(self):
        takes = (4, 7, 4, 3)
        for rolls, wanted in (
            ((0, 1, 2, 3), True), ((0, 1, 0, 1), True), ((0, 1, 1, 2), False), ((0, 1, 0, 0), False), ((3, 9, 3, 9), True),
            ((0, 1, 2), False), ((0, 1, 2, 3, 4), False), ((), False), ((0, -1, 0, 1), False), ((-1, -2, -1, -2), False),
            ((0, 0, 1, 2), False), ((1, 0, 1, 0), True), ((99999, 1, 0, 2), True),
        ):
            self.assertIs(takes_rolls(takes, 10, rolls), wanted, rolls)
        self.assertIs(takes_rolls((), 10, ()), True)
        self.assertIs(takes_rolls((), 10, (0,)), False)
        self.assertIs(takes_rolls((5, 5), 10, (0, 0)), True)
        self.assertIs(takes_rolls((5, 6), 10, (0, 0)), False)

    def test_all_tuples(self):
        for takes, roll in (((3, 4, 2), 6), ((1, 1, 1), 2), ((5, 5, 5), 5)):
            for rolls in itertools.product(range(-1, 4), repeat=3):
                wanted = min(rolls) >= 0 and all(sum(t for t, r in zip(takes, rolls) if r == k) <= roll for k in range(4))
                self.assertIs(takes_rolls(takes, roll, rolls), wanted)


class ShortEndsTest(unittest.TestCase):
    def test_what_is_left(self):
        self.assertEqual(short_ends((4, 7, 4), 10, (0, 1, 0)), (2, 3))
        self.assertEqual(short_ends((4, 7, 4), 10, (3, 1, 3)), (10, 3, 10, 2))
        self.assertEqual(short_ends((4, 6), 10, (0, 0)), (0,))
        self.assertEqual(short_ends((), 10, ()), ())

    def test_rolls_that_are_not_taken(self):
        for rolls in ((0, 1, 1), (0, 1), (0, 1, -1), (0, 1, 2, 3), ()):
            with self.assertRaises(StockError) as caught:
                short_ends((4, 7, 4), 10, rolls)
            self.assertEqual(caught.exception.code, "rolls")

    def test_it_agrees_with_the_takes(self):
        source = random.Random(4)
        for _ in range(50):
            takes, roll = random_takes(source, 8)
            for told in (in_order(takes, roll), fewest_rolls(takes, roll)):
                left = short_ends(takes, roll, told)
                self.assertEqual(sum(takes) + sum(left), roll * len(left))
                self.assertGreaterEqual(min(left, default=0), 0)


class ErrorsTest(unittest.TestCase):
    def check_fault(self, code, takes, roll):
        for call in (
            lambda: in_order(takes, roll), lambda: fewest_rolls(takes, roll),
            lambda: takes_rolls(takes, roll, (0,)), lambda: short_ends(takes, roll, (-1,)),
        ):
            with self.assertRaises(StockError) as caught:
                call()
            self.assertIs(type(caught.exception), StockError)
            self.assertEqual(caught.exception.code, code)
            self.assertIsInstance(caught.exception, CallError)

    def test_many(self):
        self.check_fault("many", (1,) * 13, 10)
        self.check_fault("many", (11,) * 13, 10)
        self.check_fault("many", (0,) * 13, 0)

    def test_roll(self):
        for roll in (0, -1, 1000):
            self.check_fault("roll", (1,), roll)
            self.check_fault("roll", (0, 2000), roll)
            self.check_fault("roll", (), roll)

    def test_take(self):
        for takes in ((0,), (11,), (-1,), (1, 10, 11), (5, 0)):
            self.check_fault("take", takes, 10)
        self.check_fault("take", (1000,), 999)

    def test_limits(self):
        self.assertEqual(in_order((1,) * 12, 999), (0,) * 12)
        self.assertEqual(fewest_rolls((1, 1), 1), (0, 1))
        self.assertEqual(short_ends((999,), 999, (1,)), (999, 0))


if __name__ == "__main__":
    unittest.main()
