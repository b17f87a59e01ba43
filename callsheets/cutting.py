"""When scenes can be cut, and how many rolls are needed (points 1204 to 1206)."""

from callsheets.courses import run
from callsheets.daybooks import choice, closed_walk, ways_to
from callsheets.errors import StockError
from callsheets.hours import hours
from callsheets.rolls import in_order, is_roll
from callsheets.sheets import MEAL

LATEST_LAB = 9


def back_days(case, course, lab):
    """Return for each scene the day on which it comes back, None if it is not shot in a course."""
    _check_lab(lab)
    stands, _ = run(case, course)
    days = [None for _ in case[0][2]]
    for before, after in zip(stands, stands[1:]):
        for scene in after[1]:
            if scene not in before[1]:
                days[scene] = before[0] + lab
    return tuple(days)


def _check_lab(lab):
    if not 0 <= lab <= LATEST_LAB:
        raise StockError("lab")


def _check_sequence(case, sequence):
    scenes = list(sequence)
    if not scenes or scenes != sorted(set(scenes)):
        raise StockError("scenes")
    if scenes[0] < 0 or scenes[-1] >= len(case[0][2]):
        raise StockError("scenes")


def cut_day(case, course, sequence, lab):
    """Return the day on which a sequence can be cut in a course, or None."""
    _check_lab(lab)
    _check_sequence(case, sequence)
    back = back_days(case, course, lab)
    days = [back[scene] for scene in sequence]
    return None if None in days else max(days)


def cut_days(case, book, sequence, lab):
    """Return the least and the greatest day on which a sequence can be cut in the courses of a day book."""
    _check_lab(lab)
    _check_sequence(case, sequence)
    days = []
    for stand, rows in _closed(case, book).items():
        for row in rows:
            for _, told in row:
                if _has_all(told[1], sequence) and not _has_all(stand, sequence):
                    days.append(stand[0] + lab)
    return min(days), max(days)


def _closed(case, book):
    """Return the walk of a day book that closes, otherwise raise StockError."""
    rows_at = closed_walk(case, book)
    if rows_at is None:
        raise StockError("breaks")
    return rows_at


def _has_all(stand, sequence):
    return all([scene in stand[1] for scene in sequence])


def is_ahead(case, book, one, other):
    """Return whether in each course one sequence can be cut on the day of another one or before."""
    return _first_late_way(case, book, one, other) is None


def late_course(case, book, one, other):
    """Return the first triples that lead to a stand with all of another sequence, but not all of one."""
    way = _first_late_way(case, book, one, other)
    if way is None:
        raise StockError("ahead")
    return way


def _first_late_way(case, book, one, other):
    _check_sequence(case, one)
    _check_sequence(case, other)
    rows_at = _closed(case, book)
    # The stands are in the order of the first triples that lead to them.
    late = [stand for stand in rows_at if _has_all(stand, other) and not _has_all(stand, one)]
    return ways_to(case, rows_at)[late[0]] if late else None


def rolls_of(case, course, roll):
    """Return how many rolls a course needs."""
    _check_roll(case, roll)
    stands, _ = run(case, course)
    count = 0
    # A step that breaks leads to no stand: nothing of it is shot.
    for stand, (number, triple) in zip(stands[:-1], course):
        count = count + _rolls_of_step(case, stand, number, triple, roll)
    return count


def _check_roll(case, roll):
    if not is_roll(roll) or roll < max([scene[3] for scene in case[0][2]], default=0):
        raise StockError("roll")


def _rolls_of_step(case, stand, number, triple, roll):
    """Return how many rolls are needed for the scenes that are shot in a step."""
    day, shot, _, _ = stand
    rows, _ = hours(case[0], case[3][day][number], shot, triple)
    takes = [case[0][2][item][3] for item, _, _ in rows if item != MEAL]
    return max(in_order(takes, roll), default=-1) + 1


def most_rolls(case, book, roll):
    """Return the greatest number of rolls that a course of a day book needs."""
    _check_roll(case, roll)
    rows_at = _closed(case, book)
    most = {}
    # The stands behind one are told behind it.
    for stand in reversed(list(rows_at)):
        counts = []
        for row in rows_at[stand]:
            for triple, told in row:
                counts.append(_rolls_of_step(case, stand, choice(book, stand), triple, roll) + most[told[1]])
        most[stand] = max(counts, default=0)
    return most[list(rows_at)[0]]
