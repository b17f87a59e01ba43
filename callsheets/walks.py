"""All steps from a stand on, for some of the sheets at each stand."""

from callsheets.errors import LargeError
from callsheets.stands import is_through, natures, right_step, step


def row_of(case, stand, number):
    """Return the row of a sheet: each triple that nature may choose, with what the step returns."""
    return [(nature, step(case, stand, number, nature)) for nature in natures(case, stand)]


def stands_behind(rows):
    """Return the list of the stands to which the steps of rows lead, in order."""
    return [told[1] for row in rows for _, told in row if told[0] == "stand"]


class Rows:
    """The rows of the sheets of a case, each of them worked out once."""

    def __init__(self, case):
        self.case = case
        self._kept = {}
        self._natures = {}

    def row(self, stand, number):
        """Return the row of a sheet at a stand."""
        key = (stand, number)
        if key not in self._kept:
            triples = self._natures_at(stand)
            self._kept[key] = [(nature, right_step(self.case, stand, number, nature)) for nature in triples]
        return self._kept[key]

    def _natures_at(self, stand):
        # What nature may choose depends on nothing but what it used so far.
        used = stand[3]
        if used not in self._natures:
            self._natures[used] = natures(self.case, stand)
        return self._natures[used]


def walk(rows, start, numbers_at, most):
    """Return a dict of all stands that are reached from one, each with a list of rows.

    The rows are those of a case. The function that is passed returns, for a
    stand that is not through, the list of the numbers of sheets for it; there
    is a row for each of them. A stand that is through has no rows. LargeError
    if there are more than the most steps.

    The stands of earlier days come first. If there is at most one sheet at
    each stand, those of one day are in the order of the first triples that
    lead to them, which are compared one after the other as in point 602.
    """
    told = {}
    waiting = [start]
    count = 0
    while waiting:
        reached = {}
        for stand in waiting:
            numbers = [] if is_through(rows.case, stand) else numbers_at(stand)
            told[stand] = [rows.row(stand, number) for number in numbers]
            count = count + sum([len(row) for row in told[stand]])
            if count > most:
                raise LargeError("large")
            for after in stands_behind(told[stand]):
                reached[after] = True
        # Each step leads to the next day, so none of these was told already.
        waiting = list(reached)
    return told
