"""Day books, small programs that choose the sheets (points 702 to 704)."""

from callsheets.conditions import compare, is_true
from callsheets.days import NOT_WORKED
from callsheets.dealings import STEP_LIMIT
from callsheets.errors import CaseError
from callsheets.stands import first_stand, is_through
from callsheets.walks import Rows, walk


def choice(book, stand):
    """Return the number of the sheet that a day book tells at a stand, or None."""
    line = telling_line(book, stand)
    return None if line is None else book[line][2]


def telling_line(book, stand):
    """Return the number of the line that tells the sheet at a stand, or None."""
    for line, (day, test, _) in enumerate(book):
        if day == stand[0] and (test is None or is_true(test, lambda atom: _is_true_atom(atom, stand))):
            return line
    return None


def _is_true_atom(atom, stand):
    _, shot, befores, used = stand
    if atom[0] == "shot":
        return atom[1] in shot
    if atom[0] == "worked":
        return befores[atom[1]] != NOT_WORKED
    _, place, sign, number = atom
    return compare(used[place], sign, number)


def book_walk(rows, book, start):
    """Return the rows of all stands that are reached from one by the sheets of a day book.

    A stand has one row, or none if it is through or the day book tells no
    sheet at it. LargeError if there are too many steps.
    """
    return walk(rows, start, lambda stand: _numbers_at(book, stand), STEP_LIMIT)


def _numbers_at(book, stand):
    number = choice(book, stand)
    return [] if number is None else [number]


def explore(case, book):
    """Return ("closes", stands) for a day book, or ("breaks", natures, what)."""
    return explored(Rows(case), book)


def explored(rows, book):
    """Return what explore does, by the rows of the case."""
    case = rows.case
    rows_at = book_walk(rows, book, first_stand(case))
    found = _breaks_of(case, rows_at)
    if not found:
        return ("closes", tuple(sorted(rows_at)))
    # Of several with as few triples, min takes the first one. As the stands
    # are in the order of the triples that lead to them, this is the first one
    # of the steps that break, or of the stands without a sheet a day later.
    triples, what = min(found, key=lambda row: len(row[0]))
    return ("breaks", triples, what)


def _breaks_of(case, rows_at):
    """Return the list of all pairs of the first triples that lead to a break, and what breaks."""
    ways = ways_to(case, rows_at)
    found = []
    for stand, rows in rows_at.items():
        if not rows and not is_through(case, stand):
            found.append((ways[stand], ("none", stand[0])))
        for row in rows:
            for triple, told in row:
                if told[0] == "break":
                    found.append(((*ways[stand], triple), told[1]))
    return found


def ways_to(case, rows_at):
    """Return the dict of the first triples by which the stands of a walk are reached."""
    ways = {first_stand(case): ()}
    for stand, rows in rows_at.items():
        for row in rows:
            for triple, told in row:
                if told[0] == "stand" and told[1] not in ways:
                    ways[told[1]] = (*ways[stand], triple)
    return ways


def keeps_all(case, rows_at):
    """Return whether in the walk of a day book nothing breaks, and no stand is without a sheet."""
    for stand, rows in rows_at.items():
        if not rows and not is_through(case, stand):
            return False
        for row in rows:
            for _, told in row:
                if told[0] == "break":
                    return False
    return True


def closed_walk(case, book):
    """Return the walk of a day book from the first stand on, or None if it does not close."""
    rows_at = book_walk(Rows(case), book, first_stand(case))
    return rows_at if keeps_all(case, rows_at) else None


def reserve(case, book):
    """Return the greatest cost of the courses of a day book that closes."""
    rows_at = closed_walk(case, book)
    if rows_at is None:
        raise CaseError("breaks")
    greatest = {}
    # The stands behind one are told behind it.
    for stand in reversed(list(rows_at)):
        costs = [told[2] + greatest[told[1]] for row in rows_at[stand] for _, told in row]
        greatest[stand] = max(costs, default=0)
    return greatest[first_stand(case)]
