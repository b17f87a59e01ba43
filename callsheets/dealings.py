"""Needs, best dealings, and nature's answers to all dealings (points 801 and 804)."""

from callsheets.errors import CaseError
from callsheets.stands import first_stand, is_through
from callsheets.walks import Rows, stands_behind, walk

# More steps are not looked through.
STEP_LIMIT = 5000


def need(case, stand):
    """Return the need of a stand, or None if it has none."""
    return _needs_of(case, _full_walk(case, stand))[stand]


def _full_walk(case, start):
    """Return the rows of all stands that are reached from one by any sheets."""
    return walk(Rows(case), start, lambda stand: _all_numbers(case, stand), STEP_LIMIT)


def _all_numbers(case, stand):
    menu = case[3]
    return list(range(len(menu[stand[0]]))) if stand[0] < len(menu) else []


def _needs_of(case, rows_at):
    """Return the dict of the needs of all stands of a walk."""
    needs = {}
    # The stands behind one are told behind it.
    for stand in reversed(list(rows_at)):
        if is_through(case, stand):
            needs[stand] = 0
        else:
            prices = [_price_of_row(needs, row) for row in rows_at[stand]]
            needs[stand] = min([price for price in prices if price is not None], default=None)
    return needs


def _price_of_row(needs, row):
    """Return what a sheet needs at most, or None if one of its steps can keep nothing."""
    prices = [_price(needs, told) for _, told in row]
    return None if None in prices else max(prices)


def _price(needs, told):
    """Return what a step costs with the need behind it, or None if it breaks or there is none."""
    if told[0] == "break" or needs[told[1]] is None:
        return None
    return told[2] + needs[told[1]]


def best(case):
    """Return ("keeps", need, dealing), or ("never", answers)."""
    first = first_stand(case)
    rows_at = _full_walk(case, first)
    needs = _needs_of(case, rows_at)
    if needs[first] is None:
        return ("never", _answers_of(case, rows_at, needs))
    return ("keeps", needs[first], _dealing_of(case, rows_at, needs))


def too_little(case, reserve):
    """Return an answer book that answers a reserve below the need of the first stand."""
    first = first_stand(case)
    rows_at = _full_walk(case, first)
    needs = _needs_of(case, rows_at)
    if needs[first] is not None and needs[first] <= reserve:
        raise CaseError("enough")
    return _answers_of(case, rows_at, needs)


def _dealing_of(case, rows_at, needs):
    numbers = {}
    for stand, rows in rows_at.items():
        if rows and needs[stand] is not None:
            prices = [_price_of_row(needs, row) for row in rows]
            numbers[stand] = prices.index(needs[stand])
    stands = _stands_by(case, lambda stand: [rows_at[stand][numbers[stand]]])
    return tuple([(stand, numbers[stand], needs[stand]) for stand in stands])


def _answers_of(case, rows_at, needs):
    answers = {}
    for stand, rows in rows_at.items():
        answers[stand] = [_first_answer(needs, row, needs[stand]) for row in rows]
    stands = _stands_by(case, lambda stand: [answers[stand]])
    return tuple([(stand, needs[stand], tuple([triple for triple, _ in answers[stand]])) for stand in stands])


def _first_answer(needs, row, wanted):
    """Return the first pair of a row that breaks, needs at least what is wanted, or has no need."""
    return [pair for pair in row if _is_answer(_price(needs, pair[1]), wanted)][0]


def _is_answer(price, wanted):
    return price is None or wanted is not None and price >= wanted


def _stands_by(case, rows_of):
    """Return the ascending list of the stands, none through, to which the rows told for each lead."""
    told = {}
    waiting = [first_stand(case)]
    while waiting:
        stand = waiting.pop()
        if stand not in told and not is_through(case, stand):
            told[stand] = True
            waiting.extend(stands_behind(rows_of(stand)))
    return sorted(told)
