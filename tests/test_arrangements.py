"""Point 203: arrangements, counted and numbered."""

import unittest
from itertools import combinations, permutations

from callsheets.arrangements import arrangement_at, count_arrangements, count_closed, number_of
from callsheets.errors import OrderError
from callsheets.films import parse_film


def film_of(count, orders):
    """Return a film with some scenes and orders, by way of its text."""
    lines = ["place p inside"]
    lines += ["scene s{} p any 5 :".format(k) for k in range(count)]
    lines += ["order s{} s{}".format(first, second) for first, second in orders]
    return parse_film("\n".join(lines))


def arrangements_of(count, orders):
    """Return the list of the arrangements, by trying all."""
    return [
        row for row in permutations(range(count))
        if all(row.index(first) < row.index(second) for first, second in orders)
    ]


def closed_of(count, orders):
    """Return how many sets are closed, by trying all."""
    sets = [shot for size in range(count + 1) for shot in combinations(range(count), size)]
    return sum(all(first in shot for first, second in orders if second in shot) for shot in sets)


SMALL = (
    (1, ()),
    (2, ()),
    (2, ((0, 1),)),
    (2, ((1, 0),)),
    (3, ()),
    (3, ((2, 0),)),
    (3, ((2, 1), (1, 0))),
    (4, ((0, 2), (1, 2), (1, 3))),
    (4, ((3, 0), (3, 1))),
    (5, ((4, 0), (0, 1), (4, 2), (2, 1), (4, 1))),
    (5, ((1, 0), (2, 0), (3, 0), (4, 0))),
    (6, ((5, 2), (2, 0), (3, 1))),
    (6, ()),
)


class CountTest(unittest.TestCase):
    def test_small_films(self):
        for count, orders in SMALL:
            with self.subTest((count, orders)):
                film = film_of(count, orders)
                self.assertEqual(count_arrangements(film), len(arrangements_of(count, orders)))
                self.assertEqual(count_closed(film), closed_of(count, orders))

    def test_twelve_scenes_without_orders(self):
        film = film_of(12, [])
        self.assertEqual(count_arrangements(film), 479001600)
        self.assertEqual(count_closed(film), 4096)

    def test_chain_of_twelve(self):
        film = film_of(12, [(k, k + 1) for k in range(11)])
        self.assertEqual(count_arrangements(film), 1)
        self.assertEqual(count_closed(film), 13)

    def test_two_chains_of_six(self):
        film = film_of(12, [(k, k + 2) for k in range(10)])
        self.assertEqual(count_arrangements(film), 924)
        self.assertEqual(count_closed(film), 49)


class NumberTest(unittest.TestCase):
    def test_small_films_both_ways(self):
        for count, orders in SMALL:
            with self.subTest((count, orders)):
                film = film_of(count, orders)
                rows = arrangements_of(count, orders)
                self.assertEqual([arrangement_at(film, k) for k in range(len(rows))], rows)
                self.assertEqual([number_of(film, row) for row in rows], list(range(len(rows))))

    def test_large_films(self):
        loose = film_of(12, [])
        self.assertEqual(arrangement_at(loose, 0), tuple(range(12)))
        self.assertEqual(arrangement_at(loose, 479001599), tuple(range(11, -1, -1)))
        self.assertEqual(arrangement_at(loose, 39916800), (1, 0) + tuple(range(2, 12)))
        for number in (0, 1, 123456789, 479001599):
            self.assertEqual(number_of(loose, arrangement_at(loose, number)), number)
        chain = film_of(12, [(k + 1, k) for k in range(11)])
        self.assertEqual(arrangement_at(chain, 0), tuple(range(11, -1, -1)))
        self.assertEqual(number_of(chain, tuple(range(11, -1, -1))), 0)

    def test_number_without_an_arrangement(self):
        for count, orders in SMALL:
            film = film_of(count, orders)
            for number in (-1, -2, len(arrangements_of(count, orders)), 10 ** 12, -10 ** 12):
                with self.assertRaises(OrderError) as caught:
                    arrangement_at(film, number)
                self.assertEqual(caught.exception.code, "number")
        self.assertRaises(OrderError, arrangement_at, film_of(12, []), 479001600)

    def test_what_is_no_arrangement(self):
        film = film_of(3, [(2, 0)])
        for row in (
            (), (2,), (2, 0), (2, 0, 1, 1), (2, 0, 1, 3), (2, 2, 0), (2, 2, 1), (2, 0, 0), (0, 1, 2), (0, 2, 1),
            (1, 0, 2), (2, 0, 3), (2, 0, -1), (-1, 2, 0), (1, 2, 3), (3, 4, 5), (2, 1, 0, 2),
        ):
            with self.subTest(row):
                with self.assertRaises(OrderError) as caught:
                    number_of(film, row)
                self.assertEqual(caught.exception.code, "arrangement")

    def test_all_rows_of_a_small_film(self):
        orders = ((3, 1), (1, 0), (3, 2))
        film = film_of(4, orders)
        rows = arrangements_of(4, orders)
        for row in permutations(range(4)):
            if row in rows:
                self.assertEqual(number_of(film, row), rows.index(row))
            else:
                self.assertRaises(OrderError, number_of, film, row)


class ArgumentsTest(unittest.TestCase):
    def test_film_stays_as_it_was(self):
        film = film_of(4, [(2, 0), (0, 1)])
        before = repr(film)
        count_arrangements(film)
        count_closed(film)
        arrangement_at(film, 2)
        number_of(film, (2, 0, 1, 3))
        self.assertEqual(repr(film), before)


if __name__ == "__main__":
    unittest.main()
