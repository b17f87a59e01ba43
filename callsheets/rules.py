"""Rules over the figures of an actor's day (points 401 and 404)."""

from callsheets.conditions import compare

FIGURES = ("call", "wrap", "span", "work", "rest", "row", "dark", "stretch", "scenes")
# Who a rule is for, if not for the actor with this number.
ALL = -1
MINORS = -2


def holds(condition, figures):
    """Return whether a condition is true for nine figures."""
    word = condition[0]
    if word == "is":
        _, figure, sign, number = condition
        return compare(figures[FIGURES.index(figure)], sign, number)
    if word == "not":
        return not holds(condition[1], figures)
    first = holds(condition[1], figures)
    second = holds(condition[2], figures)
    if word == "and":
        return first and second
    if word == "or":
        return first or second
    return not first or second


def broken(film, rules, actor, figures):
    """Return the ascending tuple of the numbers of the rules that an actor's day breaks."""
    told = []
    for number, (_, who, condition) in enumerate(rules):
        if _is_for(film, who, actor) and not holds(condition, figures):
            told.append(number)
    return tuple(told)


def _is_for(film, who, actor):
    if who == MINORS:
        return film[1][actor][1]
    return who == ALL or who == actor
