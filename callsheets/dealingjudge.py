"""Judges of dealings and answer books (points 802 and 803)."""

from callsheets.forms import is_integer, is_row, is_stand, is_triple, is_within
from callsheets.stands import first_stand, is_through, step
from callsheets.walks import row_of


def takes_dealing(case, reserve, dealing):
    """Return whether a dealing carries a reserve."""
    if not _are_rows(case, dealing, _is_choice):
        return False
    amounts = {stand: amount for stand, _, amount in dealing}
    first = first_stand(case)
    if not is_through(case, first) and (first not in amounts or amounts[first] > reserve):
        return False
    return all([_carries(case, amounts, row) for row in dealing])


def takes_answers(case, reserve, answers):
    """Return whether an answer book answers a reserve, or every one if it is None."""
    if not _are_rows(case, answers, _is_answer):
        return False
    amounts = {stand: amount for stand, amount, _ in answers}
    first = first_stand(case)
    if first not in amounts or not _is_above(amounts[first], reserve):
        return False
    return all([_answers(case, amounts, row) for row in answers])


def _are_rows(case, told, is_right):
    """Return whether something is a tuple of triples, ascending by their stands, that all are right.

    The function that is passed tells it of what stands behind the stand.
    """
    if not isinstance(told, tuple) or not all([_is_right_row(case, row, is_right) for row in told]):
        return False
    stands = [row[0] for row in told]
    return stands == sorted(set(stands))


def _is_right_row(case, told, is_right):
    if not is_row(told, 3) or not is_stand(case, told[0]):
        return False
    stand = told[0]
    if is_through(case, stand) or stand[0] >= len(case[3]):
        return False
    return is_right(case, stand, told)


def _is_choice(case, stand, told):
    _, number, amount = told
    return is_within(number, 0, len(case[3][stand[0]]) - 1) and _is_amount(amount)


def _is_answer(case, stand, told):
    _, amount, triples = told
    if amount is not None and not _is_amount(amount):
        return False
    return is_row(triples, len(case[3][stand[0]])) and all([is_triple(case, stand, triple) for triple in triples])


def _is_amount(told):
    return is_integer(told) and told >= 0


def _carries(case, amounts, row):
    """Return whether an amount suffices at a stand, if those of the dealing do behind it."""
    stand, number, amount = row
    for _, told in row_of(case, stand, number):
        if told[0] == "break":
            return False
        _, behind, cost = told
        if not is_through(case, behind) and behind not in amounts:
            return False
        # A stand that is through is none of the dealing, and needs nothing.
        if cost + amounts.get(behind, 0) > amount:
            return False
    return True


def _is_above(amount, reserve):
    """Return whether an amount, None for one without an end, is above a reserve, None likewise."""
    return amount is None or reserve is not None and amount > reserve


def _answers(case, amounts, row):
    """Return whether nature's triples at a stand need its amount, if those behind it do."""
    stand, amount, triples = row
    for number, triple in enumerate(triples):
        told = step(case, stand, number, triple)
        if told[0] == "stand" and not _is_enough(amounts.get(told[1], 0), told[2], amount):
            return False
    return True


def _is_enough(behind, cost, amount):
    """Return whether what is needed behind a step, with its cost, is at least an amount."""
    if behind is None:
        return True
    return amount is not None and cost + behind >= amount
