"""All courses of a day book, one after the other, for the tests of what is told of them."""

from small_cases import small_case

from callsheets.daybooks import choice, explore
from callsheets.days import figures_of
from callsheets.hours import hours
from callsheets.stands import first_stand, is_through, natures, step


def courses_from(case, book, stand):
    """Yield all courses from a stand, as lists of (stand, number, triple, what the step returns)."""
    number = None if is_through(case, stand) else choice(book, stand)
    if number is None:
        yield []
        return
    for triple in natures(case, stand):
        told = step(case, stand, number, triple)
        row = (stand, number, triple, told)
        if told[0] == "break":
            yield [row]
        else:
            for rest in courses_from(case, book, told[1]):
                yield [row] + rest


def all_courses(case, book):
    return list(courses_from(case, book, first_stand(case)))


def breaks_of(case, book):
    """Return the list of (triples, what) for all courses that come to a break."""
    found = []
    for course in all_courses(case, book):
        end = course[-1][3] if course else ("stand", first_stand(case))
        if end[0] == "break":
            found.append((tuple(row[2] for row in course), end[1]))
        elif not is_through(case, end[1]):
            found.append((tuple(row[2] for row in course), ("none", end[1][0])))
    return found


def closing_cases(numbers):
    """Return the small cases whose day books close, with these."""
    told = [small_case(number) for number in numbers]
    return [(case, book) for case, book in told if explore(case, book)[0] == "closes"]


def call_of(case, row, actor):
    """Return the call of an actor in a step of a course, or None."""
    (day, shot, befores, _), number, triple, _ = row
    rows, _ = hours(case[0], case[3][day][number], shot, triple)
    figures = figures_of(case[0], case[1], day, rows, actor, befores[actor])
    return None if figures is None else figures[0]


def plain_notice(case, book, stand, actor):
    """Return what point 1101 tells, by all courses from a stand."""
    courses = list(courses_from(case, book, stand))
    told = []
    for day in range(stand[0], len(case[1][0])):
        calls = [[call_of(case, row, actor) for row in course if row[0][0] == day] for course in courses]
        worked = [row[0] for row in calls if row and row[0] is not None]
        if len(worked) == len(courses):
            told.append(("on", min(worked), max(worked)))
        else:
            told.append(("perhaps", min(worked), max(worked)) if worked else ("off", None, None))
    return tuple(told)
