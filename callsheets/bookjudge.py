"""Judges of what is told of a day book (point 704)."""

from callsheets.daybooks import choice
from callsheets.forms import is_same, is_stand, is_triple
from callsheets.stands import first_stand, is_through, step
from callsheets.walks import row_of


def takes_stands(case, book, stands):
    """Return whether a day book closes within stands, with the first one among them."""
    if not isinstance(stands, tuple) or not all(is_stand(case, stand) for stand in stands):
        return False
    told = {stand: True for stand in stands}
    return first_stand(case) in told and all(_stays_within(case, book, stand, told) for stand in stands)


def _stays_within(case, book, stand, told):
    """Return whether nothing breaks at a stand, and each step from it leads to one that is told."""
    if is_through(case, stand):
        return True
    number = choice(book, stand)
    if number is None:
        return False
    return all(end[0] == "stand" and end[1] in told for _, end in row_of(case, stand, number))


def takes_natures(case, book, natures, what):
    """Return whether a day book breaks just this at the end of triples, and nothing before."""
    if not isinstance(natures, tuple):
        return False
    stand = first_stand(case)
    for count, nature in enumerate(natures, start=1):
        number = choice(book, stand)
        if is_through(case, stand) or number is None or not is_triple(case, stand, nature):
            return False
        end = step(case, stand, number, nature)
        if end[0] == "break":
            return count == len(natures) and is_same(what, end[1])
        stand = end[1]
    return not is_through(case, stand) and choice(book, stand) is None and is_same(what, ("none", stand[0]))
