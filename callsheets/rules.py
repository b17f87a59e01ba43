"""Rules over the figures of an actor's day (points 401 and 404)."""

from callsheets.conditions import compare, is_true

FIGURES = ("call", "wrap", "span", "work", "rest", "row", "dark", "stretch", "scenes")
# The places of some of them among the nine.
CALL = 0
WRAP = 1
SPAN = 2
ROW = 5
# Who a rule is for, if not for the actor with this number.
ALL = -1
MINORS = -2


def holds(condition, figures):
    """Return whether a condition is true for nine figures."""
    return is_true(condition, lambda atom: _is_true_atom(atom, figures))


def _is_true_atom(atom, figures):
    _, figure, sign, number = atom
    return compare(figures[FIGURES.index(figure)], sign, number)


def broken(film, rules, actor, figures):
    """Return the ascending tuple of the numbers of the rules that an actor's day breaks."""
    told = []
    for number, (_, who, condition) in enumerate(rules):
        if _is_for(film, who, actor) and not holds(condition, figures):
            told.append(number)
    return tuple(told)


def _is_for(film, who, actor):
    if who == MINORS:
        return film[1][actor][1]
    return who == ALL or who == actor
