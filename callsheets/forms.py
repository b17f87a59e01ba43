"""Whether what is handed to a judge has the form of a stand or a triple (point 704)."""

from callsheets.days import NOT_WORKED
from callsheets.orders import is_closed
from callsheets.stands import may_choose

LATEST_WRAP = 99999


def is_row(told, length):
    """Return whether something is a tuple of some length."""
    return isinstance(told, tuple) and len(told) == length


def is_integer(told):
    """Return whether something is an integer; True and False are none."""
    return isinstance(told, int) and not isinstance(told, bool)


def is_within(told, least, most):
    """Return whether something is an integer from a least to a greatest one."""
    return is_integer(told) and least <= told <= most


def is_same(told, real):
    """Return whether something is just what it should be, a tuple of texts and integers."""
    if not is_row(told, len(real)):
        return False
    return all([isinstance(part, str) or is_integer(part) for part in told]) and told == real


def is_stand(case, told):
    """Return whether something is of the form of a stand of a case."""
    if not is_row(told, 4):
        return False
    day, shot, befores, used = told
    if not is_within(day, 0, len(case[1][0])):
        return False
    return _is_closed_set(case[0], shot) and _are_befores(case[0], day, befores) and _are_used(case[4], used)


def _is_closed_set(film, told):
    if not isinstance(told, tuple) or not all([is_within(scene, 0, len(film[2]) - 1) for scene in told]):
        return False
    return list(told) == sorted(set(told)) and is_closed(film, told)


def _are_befores(film, day, told):
    return is_row(told, len(film[1])) and all([_is_before(day, before) for before in told])


def _is_before(day, told):
    if is_same(told, NOT_WORKED):
        return True
    return is_row(told, 2) and is_within(told[0], 0, LATEST_WRAP) and is_within(told[1], 1, day)


def _are_used(bounds, told):
    # The bounds have a fourth number, the minutes of a late day.
    return is_row(told, 3) and all([is_within(used, 0, most) for used, most in zip(told, bounds)])


def is_triple(case, stand, told):
    """Return whether something is a triple that nature may choose at a stand."""
    if not is_row(told, 3):
        return False
    _, ill, late = told
    return is_integer(ill) and is_integer(late) and may_choose(case, stand, told)
