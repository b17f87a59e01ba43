"""Points 201 and 202: which scenes are ahead of which, closed sets, layers and needless orders."""

import unittest
from itertools import combinations, permutations

from callsheets.errors import OrderError
from callsheets.films import parse_film
from callsheets.orders import ahead, behind, free_scenes, is_closed, layers, needless


def film_of(count, orders):
    """Return a film with some scenes and orders, by way of its text."""
    lines = ["place p inside"]
    lines += ["scene s{} p any 5 :".format(k) for k in range(count)]
    lines += ["order s{} s{}".format(first, second) for first, second in orders]
    return parse_film("\n".join(lines))


def all_pairs(count, orders):
    """Return the set of the pairs (one, other) for which one is ahead of the other."""
    pairs = set(orders)
    for mid in range(count):
        for first in range(count):
            for second in range(count):
                if (first, mid) in pairs and (mid, second) in pairs:
                    pairs.add((first, second))
    return pairs


def all_orders(count):
    """Yield each set of orders over some scenes in which no row is a circle."""
    pairs = list(permutations(range(count), 2))
    for size in range(len(pairs) + 1):
        for orders in combinations(pairs, size):
            if not any((k, k) in all_pairs(count, orders) for k in range(count)):
                yield orders


CHAIN = film_of(12, [(k, k + 1) for k in range(11)])
LOOSE = film_of(12, [])
# 4 leads to 0 and 2, which lead to 1; 4 leads to 1 itself, too; 3 and 5 stand alone behind 2.
TURNED = film_of(6, [(4, 0), (0, 1), (4, 2), (2, 1), (4, 1), (2, 3), (3, 5), (2, 5)])


class AheadTest(unittest.TestCase):
    def test_no_orders(self):
        for scene in range(12):
            self.assertEqual(ahead(LOOSE, scene), ())
            self.assertEqual(behind(LOOSE, scene), ())

    def test_chain(self):
        for scene in range(12):
            self.assertEqual(ahead(CHAIN, scene), tuple(range(scene)))
            self.assertEqual(behind(CHAIN, scene), tuple(range(scene + 1, 12)))

    def test_rows_against_the_numbers(self):
        self.assertEqual([ahead(TURNED, k) for k in range(6)],
                         [(4,), (0, 2, 4), (4,), (2, 4), (), (2, 3, 4)])
        self.assertEqual([behind(TURNED, k) for k in range(6)],
                         [(1,), (), (1, 3, 5), (5,), (0, 1, 2, 3, 5), ()])

    def test_all_small_films(self):
        for orders in all_orders(4):
            film = film_of(4, orders)
            pairs = all_pairs(4, orders)
            for scene in range(4):
                self.assertEqual(ahead(film, scene), tuple(k for k in range(4) if (k, scene) in pairs))
                self.assertEqual(behind(film, scene), tuple(k for k in range(4) if (scene, k) in pairs))


class ClosedTest(unittest.TestCase):
    def test_no_orders(self):
        for shot in ((), (0,), (11,), (3, 7), tuple(range(12))):
            self.assertIs(is_closed(LOOSE, shot), True)
            self.assertEqual(free_scenes(LOOSE, shot), tuple(k for k in range(12) if k not in shot))

    def test_chain(self):
        for count in range(13):
            self.assertIs(is_closed(CHAIN, tuple(range(count))), True)
            self.assertEqual(free_scenes(CHAIN, tuple(range(count))), (count,) if count < 12 else ())
        for shot in ((1,), (11,), (0, 2), (0, 1, 2, 4), tuple(range(1, 12)), (0, 11)):
            self.assertIs(is_closed(CHAIN, shot), False)

    def test_set_without_a_scene_that_is_ahead_by_a_row_only(self):
        film = film_of(3, [(0, 1), (1, 2)])
        self.assertIs(is_closed(film, (1, 2)), False)
        self.assertIs(is_closed(film, (0, 2)), False)
        self.assertIs(is_closed(film, (2,)), False)

    def test_set_that_is_not_closed_has_no_free_scenes(self):
        for film, shot in ((CHAIN, (1,)), (CHAIN, (0, 2)), (TURNED, (0,)), (TURNED, (1, 2, 3, 4, 5)), (TURNED, (3, 4))):
            with self.assertRaises(OrderError) as caught:
                free_scenes(film, shot)
            self.assertEqual(caught.exception.code, "open")

    def test_all_small_films(self):
        for orders in all_orders(4):
            film = film_of(4, orders)
            pairs = all_pairs(4, orders)
            closed = [
                shot for size in range(5) for shot in combinations(range(4), size)
                if all(first in shot for first, second in pairs if second in shot)
            ]
            for size in range(5):
                for shot in combinations(range(4), size):
                    self.assertIs(is_closed(film, shot), shot in closed)
                    if shot in closed:
                        free = tuple(k for k in range(4) if k not in shot and tuple(sorted(shot + (k,))) in closed)
                        self.assertEqual(free_scenes(film, shot), free)
                    else:
                        self.assertRaises(OrderError, free_scenes, film, shot)


class LayersTest(unittest.TestCase):
    def test_no_orders(self):
        self.assertEqual(layers(LOOSE), (tuple(range(12)),))
        self.assertEqual(layers(film_of(1, [])), ((0,),))

    def test_chain(self):
        self.assertEqual(layers(CHAIN), tuple((k,) for k in range(12)))

    def test_longest_row_counts(self):
        self.assertEqual(layers(TURNED), ((4,), (0, 2), (1, 3), (5,)))
        self.assertEqual(layers(film_of(4, [(0, 3), (0, 1), (1, 2), (2, 3)])), ((0,), (1,), (2,), (3,)))
        self.assertEqual(layers(film_of(4, [(3, 2), (1, 2)])), ((0, 1, 3), (2,)))

    def test_all_small_films(self):
        for orders in all_orders(4):
            film = film_of(4, orders)

            def longest(scene):
                return max((1 + longest(first) for first, second in orders if second == scene), default=0)

            lengths = [longest(scene) for scene in range(4)]
            told = tuple(tuple(k for k in range(4) if lengths[k] == n) for n in range(max(lengths) + 1))
            self.assertEqual(layers(film), told)


class NeedlessTest(unittest.TestCase):
    def test_no_orders_and_chains(self):
        self.assertEqual(needless(LOOSE), ())
        self.assertEqual(needless(CHAIN), ())

    def test_orders_that_follow_from_others(self):
        self.assertEqual(needless(TURNED), ((2, 5), (4, 1)))
        self.assertEqual(needless(film_of(4, [(0, 1), (1, 2), (2, 3), (0, 3), (0, 2)])), ((0, 2), (0, 3)))
        self.assertEqual(needless(film_of(4, [(0, 1), (0, 2), (1, 3), (2, 3)])), ())

    def test_full_orders(self):
        pairs = list(combinations(range(12), 2))
        self.assertEqual(needless(film_of(12, pairs)), tuple(pair for pair in pairs if pair[1] > pair[0] + 1))

    def test_all_small_films(self):
        for orders in all_orders(4):
            pairs = all_pairs(4, orders)
            told = tuple(
                order for order in sorted(orders)
                if all_pairs(4, [other for other in orders if other != order]) == pairs
            )
            self.assertEqual(needless(film_of(4, orders)), told)
            self.assertEqual(all_pairs(4, [order for order in orders if order not in told]), pairs)


class ArgumentsTest(unittest.TestCase):
    def test_film_stays_as_it_was(self):
        film = film_of(4, [(2, 0), (0, 1), (2, 1)])
        before = repr(film)
        ahead(film, 1)
        behind(film, 2)
        is_closed(film, (2,))
        free_scenes(film, (2,))
        layers(film)
        needless(film)
        self.assertEqual(repr(film), before)


if __name__ == "__main__":
    unittest.main()
