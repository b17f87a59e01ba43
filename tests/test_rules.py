"""Points 401 and 404: figures, conditions that hold, and rules that are broken."""

import unittest

from callsheets.films import parse_film
from callsheets.rules import FIGURES, broken, holds

FILM = parse_film("place hut inside\nactor ann\nactor ben minor\nactor cid\nactor dot minor\nscene s hut any 5 :")
NUMBERS = (480, 1020, 540, 300, 9999, 1, 0, 240, 4)
YES = ("is", "row", "=", 1)
NO = ("is", "row", "=", 2)


def truth(value):
    return YES if value else NO


class HoldsTest(unittest.TestCase):
    def test_figures(self):
        self.assertEqual(FIGURES, ("call", "wrap", "span", "work", "rest", "row", "dark", "stretch", "scenes"))
        self.assertIsInstance(FIGURES, tuple)

    def test_each_figure(self):
        for place, figure in enumerate(FIGURES):
            for other, number in enumerate(NUMBERS):
                self.assertIs(holds(("is", figure, "=", number), NUMBERS), other == place)

    def test_each_sign(self):
        for sign, values in (
            ("<", (False, False, True)),
            ("<=", (False, True, True)),
            (">", (True, False, False)),
            (">=", (True, True, False)),
            ("=", (False, True, False)),
            ("!=", (True, False, True)),
        ):
            for number, value in zip((299, 300, 301), values):
                with self.subTest((sign, number)):
                    self.assertIs(holds(("is", "work", sign, number), NUMBERS), value)

    def test_numbers_at_their_edges(self):
        figures = (0, 99999, 0, 0, 0, 0, 0, 0, 0)
        self.assertIs(holds(("is", "call", "<", 0), figures), False)
        self.assertIs(holds(("is", "call", ">=", 0), figures), True)
        self.assertIs(holds(("is", "wrap", "<=", 99999), figures), True)
        self.assertIs(holds(("is", "wrap", "!=", 99999), figures), False)

    def test_each_word(self):
        for first in (False, True):
            self.assertIs(holds(("not", truth(first)), NUMBERS), not first)
            for second in (False, True):
                pair = (truth(first), truth(second))
                self.assertIs(holds(("and",) + pair, NUMBERS), first and second)
                self.assertIs(holds(("or",) + pair, NUMBERS), first or second)
                self.assertIs(holds(("then",) + pair, NUMBERS), not (first and not second))

    def test_words_within_words(self):
        self.assertIs(holds(("then", ("and", YES, ("not", NO)), ("or", NO, ("then", YES, NO))), NUMBERS), False)
        self.assertIs(holds(("not", ("then", ("or", NO, YES), ("and", YES, NO))), NUMBERS), True)
        self.assertIs(holds(("then", ("then", YES, NO), NO), NUMBERS), True)
        self.assertIs(holds(("then", YES, ("then", NO, NO)), NUMBERS), True)
        self.assertIs(holds(("not", ("not", YES)), NUMBERS), True)


class BrokenTest(unittest.TestCase):
    def test_who_a_rule_is_for(self):
        rules = (("a", -1, NO), ("b", -2, NO), ("c", 0, NO), ("d", 1, NO), ("e", 2, NO), ("f", 3, NO))
        self.assertEqual(broken(FILM, rules, 0, NUMBERS), (0, 2))
        self.assertEqual(broken(FILM, rules, 1, NUMBERS), (0, 1, 3))
        self.assertEqual(broken(FILM, rules, 2, NUMBERS), (0, 4))
        self.assertEqual(broken(FILM, rules, 3, NUMBERS), (0, 1, 5))

    def test_rules_that_hold_are_not_broken(self):
        rules = (("a", -1, YES), ("b", -2, YES), ("c", 1, YES), ("d", -2, NO), ("e", 1, YES))
        self.assertEqual(broken(FILM, rules, 1, NUMBERS), (3,))
        self.assertEqual(broken(FILM, rules, 0, NUMBERS), ())
        self.assertEqual(broken(FILM, (), 0, NUMBERS), ())

    def test_figures_decide(self):
        rules = (
            ("long", -1, ("is", "span", "<=", 600)),
            ("kids", -2, ("then", ("is", "work", ">", 240), ("is", "rest", ">=", 720))),
            ("ben", 1, ("not", ("is", "scenes", ">", 3))),
        )
        self.assertEqual(broken(FILM, rules, 1, NUMBERS), (2,))
        self.assertEqual(broken(FILM, rules, 1, (0, 0, 601, 241, 719, 1, 0, 0, 3)), (0, 1))
        self.assertEqual(broken(FILM, rules, 0, (0, 0, 601, 241, 719, 1, 0, 0, 4)), (0,))
        self.assertEqual(broken(FILM, rules, 3, (0, 0, 600, 241, 719, 1, 0, 0, 4)), (1,))
        self.assertEqual(broken(FILM, rules, 3, (0, 0, 600, 240, 719, 1, 0, 0, 4)), ())

    def test_twelve_rules(self):
        rules = tuple(("r{}".format(k), -1, NO) for k in range(12))
        self.assertEqual(broken(FILM, rules, 2, NUMBERS), tuple(range(12)))

    def test_arguments_stay_as_they_were(self):
        rules = (("a", -1, ("and", YES, NO)),)
        before = repr((FILM, rules))
        broken(FILM, rules, 0, NUMBERS)
        self.assertEqual(repr((FILM, rules)), before)


if __name__ == "__main__":
    unittest.main()
