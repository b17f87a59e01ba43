"""Point 405: which atoms force the value of a condition."""

import unittest
from itertools import combinations, product

from callsheets.films import parse_film
from callsheets.reasons import forces, reason
from callsheets.ruletext import parse_rules

FILM = parse_film("place hut inside\nactor ben minor\nscene s hut day 60 : ben")
FIGURES = (0, 1300, 0, 100, 600, 1, 0, 0, 1)
YES = ("is", "row", "=", 1)
NO = ("is", "row", "=", 2)


def condition(text):
    """Return the condition of a text in which y and n stand for atoms that are true and false."""
    words = [{"y": "row = 1", "n": "row = 2"}.get(word, word) for word in text.split()]
    return parse_rules(FILM, "rule x all : " + " ".join(words))[0][2]


def atoms_of(tree):
    """Return the truth values of the atoms of a condition of y and n, from left to right."""
    if tree[0] == "is":
        return [tree == YES]
    return [value for part in tree[1:] for value in atoms_of(part)]


def value_of(tree, values):
    """Return the value of a condition, and take those of its atoms from the front of a list."""
    if tree[0] == "is":
        return values.pop(0)
    parts = [value_of(part, values) for part in tree[1:]]
    if tree[0] == "not":
        return not parts[0]
    if tree[0] == "and":
        return parts[0] and parts[1]
    if tree[0] == "or":
        return parts[0] or parts[1]
    return parts[0] <= parts[1]


def forced(tree, atoms):
    """Return whether a set of atoms forces a condition, by trying all values of the others."""
    told = atoms_of(tree)
    found = set()
    for others in product((False, True), repeat=len(told)):
        values = [told[k] if k in atoms else others[k] for k in range(len(told))]
        found.add(value_of(tree, values))
    return len(found) == 1


def trees(atoms, nots):
    """Return all conditions with so many atoms and so many times not at the most, on top of a condition."""
    told = []
    if atoms == 1:
        told = [YES, NO]
    for left in range(1, atoms):
        for first in trees(left, 0):
            for second in trees(atoms - left, 0):
                told += [(word, first, second) for word in ("and", "or", "then")]
    if nots:
        told += [("not", tree) for tree in trees(atoms, nots - 1)]
    return told


class ReasonTest(unittest.TestCase):
    def test_example_of_the_interface(self):
        rules = parse_rules(FILM, "rule short minors : work <= 300 and ( wrap < 1200 or rest > 900 )")
        self.assertEqual(rules, ((
            "short", -2,
            ("and", ("is", "work", "<=", 300), ("or", ("is", "wrap", "<", 1200), ("is", "rest", ">", 900))),
        ),))
        self.assertEqual(reason(rules[0][2], FIGURES), (1, 2))
        self.assertIs(forces(rules[0][2], FIGURES, (1, 2)), True)
        self.assertIs(forces(rules[0][2], FIGURES, (0, 1)), False)

    def test_one_atom(self):
        for tree in (YES, NO, ("not", YES), ("not", ("not", NO))):
            self.assertEqual(reason(tree, FIGURES), (0,))
            self.assertIs(forces(tree, FIGURES, (0,)), True)
            self.assertIs(forces(tree, FIGURES, ()), False)

    def test_two_atoms(self):
        for text, atoms in (
            ("y and y", (0, 1)), ("y and n", (1,)), ("n and y", (0,)), ("n and n", (0,)),
            ("y or y", (0,)), ("y or n", (0,)), ("n or y", (1,)), ("n or n", (0, 1)),
            ("y then y", (1,)), ("y then n", (0, 1)), ("n then y", (0,)), ("n then n", (0,)),
        ):
            with self.subTest(text):
                self.assertEqual(reason(condition(text), FIGURES), atoms)
                self.assertEqual(reason(("not", condition(text)), FIGURES), atoms)

    def test_fewest_atoms(self):
        self.assertEqual(reason(condition("y and y or y"), FIGURES), (2,))
        self.assertEqual(reason(condition("( n or n ) and n"), FIGURES), (2,))
        self.assertEqual(reason(condition("y and y and y or y and y"), FIGURES), (3, 4))
        self.assertEqual(reason(condition("y and n then y"), FIGURES), (1,))
        self.assertEqual(reason(condition("y or y then y and y or y"), FIGURES), (4,))
        self.assertEqual(reason(condition("y then n then y"), FIGURES), (1,))

    def test_least_of_several_sets_of_one_size(self):
        self.assertEqual(reason(condition("y and y or y and y"), FIGURES), (0, 1))
        self.assertEqual(reason(condition("( n or n ) and ( n or n )"), FIGURES), (0, 1))
        self.assertEqual(reason(condition("n or y or y or y"), FIGURES), (1,))
        self.assertEqual(reason(condition("( n or y or y ) and ( y or y )"), FIGURES), (1, 3))
        self.assertEqual(reason(condition("y and n and n and y"), FIGURES), (1,))

    def test_atom_that_stands_twice_is_two_atoms(self):
        self.assertEqual(reason(condition("y or not y"), FIGURES), (0,))
        self.assertEqual(reason(condition("n or not n"), FIGURES), (1,))
        self.assertEqual(reason(condition("y and not y"), FIGURES), (1,))
        self.assertEqual(reason(condition("y and y"), FIGURES), (0, 1))
        self.assertIs(forces(condition("y or not y"), FIGURES, ()), False)
        self.assertIs(forces(condition("y and y"), FIGURES, (0,)), False)
        self.assertIs(forces(condition("y then y"), FIGURES, (0,)), False)
        self.assertIs(forces(condition("y then y"), FIGURES, (1,)), True)

    def test_atom_that_is_true_for_all_figures_counts_as_any_other(self):
        tree = parse_rules(FILM, "rule x all : row >= 0 and work <= 99999")[0][2]
        self.assertIs(forces(tree, FIGURES, ()), False)
        self.assertEqual(reason(tree, FIGURES), (0, 1))

    def test_figures_decide(self):
        tree = parse_rules(FILM, "rule x all : work <= 300 and wrap < 1200 then rest > 900")[0][2]
        self.assertEqual(reason(tree, FIGURES), (1,))
        self.assertEqual(reason(tree, (0, 1000, 0, 100, 600, 1, 0, 0, 1)), (0, 1, 2))
        self.assertEqual(reason(tree, (0, 1000, 0, 400, 901, 1, 0, 0, 1)), (0,))
        self.assertEqual(reason(tree, (0, 1000, 0, 300, 901, 1, 0, 0, 1)), (2,))

    def test_twenty_atoms(self):
        everything = tuple(range(20))
        tree = condition(" and ".join(["y"] * 20))
        self.assertEqual(reason(tree, FIGURES), everything)
        self.assertIs(forces(tree, FIGURES, everything), True)
        for left_out in everything:
            self.assertIs(forces(tree, FIGURES, tuple(k for k in everything if k != left_out)), False)
        tree = condition(" or ".join(["n"] * 19 + ["y"]))
        self.assertEqual(reason(tree, FIGURES), (19,))
        self.assertIs(forces(tree, FIGURES, (19,)), True)
        self.assertIs(forces(tree, FIGURES, tuple(range(19))), False)
        tree = condition(" and ".join(["( n or y )"] * 10))
        self.assertEqual(reason(tree, FIGURES), tuple(range(1, 20, 2)))
        tree = condition(" then ".join(["y"] * 19 + ["n"]))
        self.assertEqual(reason(tree, FIGURES), everything)

    def test_all_small_conditions(self):
        for tree in [tree for count in range(1, 5) for tree in trees(count, 1 if count < 4 else 0)]:
            count = len(atoms_of(tree))
            sets = [atoms for size in range(count + 1) for atoms in combinations(range(count), size)]
            good = [atoms for atoms in sets if forced(tree, atoms)]
            self.assertEqual([atoms for atoms in sets if forces(tree, FIGURES, atoms)], good)
            self.assertEqual(reason(tree, FIGURES), good[0])

    def test_not_within_conditions(self):
        for text in ("not ( y and n ) and y", "y then not ( n or not y )", "not n or not ( y then n )",
                     "not ( not y and not ( n or y ) ) then not not n", "( not y or n ) and ( n then not n )"):
            tree = condition(text)
            count = len(atoms_of(tree))
            sets = [atoms for size in range(count + 1) for atoms in combinations(range(count), size)]
            good = [atoms for atoms in sets if forced(tree, atoms)]
            with self.subTest(text):
                self.assertEqual([atoms for atoms in sets if forces(tree, FIGURES, atoms)], good)
                self.assertEqual(reason(tree, FIGURES), good[0])

    def test_kinds_and_arguments(self):
        tree = condition("y and ( n or not y )")
        before = repr(tree)
        self.assertIsInstance(reason(tree, FIGURES), tuple)
        self.assertIs(forces(tree, FIGURES, (1, 2)), True)
        self.assertEqual(repr(tree), before)


if __name__ == "__main__":
    unittest.main()
