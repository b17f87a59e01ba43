"""Courses: the steps of a shooting one after the other (point 604)."""

from callsheets.stands import first_stand, is_through, step


def run(case, course):
    """Return the pair of the stands of a course and of what ends it."""
    stand = first_stand(case)
    stands = [stand]
    cost = 0
    for number, nature in course:
        told = step(case, stand, number, nature)
        if told[0] == "break":
            return tuple(stands), told
        _, stand, more = told
        stands.append(stand)
        cost = cost + more
    return tuple(stands), ("through" if is_through(case, stand) else "open", cost)
