"""Which atoms force the value of a condition (point 405).

No two parts of a condition share an atom, so what one part can be never
depends on what another one is.
"""

from callsheets.rules import holds

# For each word: what the first and what the second condition must be to
# decide it alone, and what it is then.
DECIDED = {"and": (False, False, False), "or": (True, True, True), "then": (False, True, True)}


def forces(condition, figures, atoms):
    """Return whether a set of atoms forces a condition for figures."""
    values, _ = _values_of(condition, figures, atoms, 0)
    return len(values) == 1


def _values_of(condition, figures, atoms, number):
    """Return the values that a condition can have, and the number behind those of its atoms.

    The first of its atoms has the number that is passed.
    """
    word = condition[0]
    if word == "is":
        values = [holds(condition, figures)] if number in atoms else [False, True]
        return values, number + 1
    if word == "not":
        values, behind = _values_of(condition[1], figures, atoms, number)
        return [not value for value in values], behind
    first, middle = _values_of(condition[1], figures, atoms, number)
    second, behind = _values_of(condition[2], figures, atoms, middle)
    by_first, by_second, decided = DECIDED[word]
    values = []
    if by_first in first or by_second in second:
        values.append(decided)
    if (not by_first) in first and (not by_second) in second:
        values.append(not decided)
    return values, behind


def reason(condition, figures):
    """Return the set with the fewest atoms that forces a condition, of several ones the least."""
    _, atoms, _ = _reason_of(condition, figures, 0)
    return atoms


def _reason_of(condition, figures, number):
    """Return the value of a condition, the reason of it, and the number behind those of its atoms.

    The first of its atoms has the number that is passed.
    """
    word = condition[0]
    if word == "is":
        return holds(condition, figures), (number,), number + 1
    if word == "not":
        value, atoms, behind = _reason_of(condition[1], figures, number)
        return not value, atoms, behind
    first, first_atoms, middle = _reason_of(condition[1], figures, number)
    second, second_atoms, behind = _reason_of(condition[2], figures, middle)
    by_first, by_second, decided = DECIDED[word]
    deciding = []
    if first == by_first:
        deciding.append(first_atoms)
    if second == by_second:
        deciding.append(second_atoms)
    if not deciding:
        return not decided, first_atoms + second_atoms, behind
    return decided, min(deciding, key=lambda row: (len(row), row)), behind
