"""Mends of day books, and denials that there is one (points 1002 to 1006).

A draft is a pair of a day book, in which a mend changed some lines, and of the
tuple of the numbers of these lines, the new ones included.
"""

from callsheets.bookjudge import takes_natures
from callsheets.booktext import LINE_LIMIT
from callsheets.daybooks import choice, explore, explored, telling_line
from callsheets.errors import MendError
from callsheets.news import with_news
from callsheets.stands import first_stand, is_through, step
from callsheets.walks import Rows

CHANGE_LIMIT = 3
# The most changes that a mend is looked for with.
MOST_CHANGES = 2


def mended(case, book, mend):
    """Return the day book with the changes of a mend; MendError for a wrong one."""
    if len(mend) > CHANGE_LIMIT:
        raise MendError("long")
    aims = [change[:2] for change in mend]
    if list(mend) != sorted(set(mend)) or len(set(aims)) < len(aims):
        raise MendError("order")
    for change in mend:
        _check_change(case, book, change)
    draft = (book, ())
    for change in mend:
        draft = _with_change(draft, change)
    if len(draft[0]) > LINE_LIMIT:
        raise MendError("many")
    return draft[0]


def _check_change(case, book, change):
    word, place, number = change
    if word == "more" and not 0 <= place < len(case[3]):
        raise MendError("day")
    if word == "sheet" and not 0 <= place < len(book):
        raise MendError("line")
    day = place if word == "more" else book[place][0]
    if not 0 <= number < len(case[3][day]):
        raise MendError("sheet")
    if word == "sheet" and book[place][2] == number:
        raise MendError("same")


def _with_change(draft, change):
    """Return the draft with one more change, which can be made."""
    book, fixed = draft
    word, place, number = change
    if word == "more":
        return (*book, (place, None, number)), (*fixed, len(book))
    day, test, _ = book[place]
    return (*book[:place], (day, test, number), *book[place + 1:]), (*fixed, place)


def least_mend(case, book, most):
    """Return the least of the mends with the fewest changes that keep a day book, or None."""
    _check_most(most)
    rows = Rows(case)
    # If no smaller mend keeps the day book, each one that does is reached from
    # the empty one by changes at hand.
    drafts = {(): (book, ())}
    for _ in range(most + 1):
        kept = []
        further = {}
        for mend, draft in drafts.items():
            told = explored(rows, draft[0])
            if told[0] == "closes":
                kept.append(mend)
            else:
                for change in _changes_at_hand(case, draft, told[1]):
                    further[tuple(sorted((*mend, change)))] = _with_change(draft, change)
        if kept:
            return min(kept)
        drafts = further
    return None


def _check_most(most):
    if not 0 <= most <= MOST_CHANGES:
        raise MendError("most")


def _changes_at_hand(case, draft, triples):
    """Return the ascending list of the changes at hand, for triples by which the day book breaks."""
    book, fixed = draft
    found = []
    for stand in _stands_along(case, book, triples):
        day = stand[0]
        line = telling_line(book, stand)
        if line is None and len(book) < LINE_LIMIT:
            found.extend([("more", day, number) for number in range(len(case[3][day]))])
        if line is not None and line not in fixed:
            others = [number for number in range(len(case[3][day])) if number != book[line][2]]
            found.extend([("sheet", line, number) for number in others])
    return sorted(found)


def _stands_along(case, book, triples):
    """Return the list of the stands to which triples lead, up to the one at which the day book breaks."""
    stand = first_stand(case)
    stands = [stand]
    for triple in triples:
        told = step(case, stand, choice(book, stand), triple)
        if told[0] == "stand":
            stand = told[1]
            stands.append(stand)
    return stands


def denial(case, book, most):
    """Return a denial that a mend with at most so many changes keeps a day book."""
    _check_most(most)
    return _denial_of(Rows(case), (book, ()), most)


def _denial_of(rows, draft, count):
    told = explored(rows, draft[0])
    if told[0] == "closes":
        raise MendError("mends")
    _, triples, what = told
    branches = []
    if count > 0:
        for change in _changes_at_hand(rows.case, draft, triples):
            branches.append((change, _denial_of(rows, _with_change(draft, change), count - 1)))
    return triples, what, tuple(branches)


def takes_denial(case, book, most, denial):
    """Return whether something denies that a mend with at most so many changes keeps a day book."""
    return _denies(case, (book, ()), most, denial)


def _denies(case, draft, count, told):
    triples, what, branches = told
    if not takes_natures(case, draft[0], triples, what):
        return False
    wanted = [] if count == 0 else _changes_at_hand(case, draft, triples)
    if [change for change, _ in branches] != wanted:
        return False
    return all([_denies(case, _with_change(draft, change), count - 1, inner) for change, inner in branches])


def touched(case, book, mend):
    """Return the ascending tuple of the stands that a mend touches, with both numbers of sheets."""
    new = mended(case, book, mend)
    rows = Rows(case)
    before = explored(rows, book)
    after = explored(rows, new)
    if before[0] == "breaks" or after[0] == "breaks":
        raise MendError("breaks")
    found = []
    for stand in sorted(set(before[1] + after[1])):
        old_number = choice(book, stand)
        new_number = choice(new, stand)
        if old_number != new_number and not is_through(case, stand):
            found.append((stand, old_number, new_number))
    return tuple(found)


def first_loss(case, book, news):
    """Return how many news, one after the other, a day book does not survive, or None."""
    if explore(case, book)[0] == "breaks":
        return 0
    known = case
    for count, one in enumerate(news, start=1):
        known = with_news(known, one)
        if explore(known, book)[0] == "breaks":
            return count
    return None
