"""Arrangements of the scenes of a film, counted and numbered (point 203).

A set of scenes is a number here, the bits of which are its scenes.
"""

from callsheets.errors import OrderError


def count_arrangements(film):
    """Return how many arrangements there are."""
    return _ways_on(film)[0]


def count_closed(film):
    """Return how many closed sets there are."""
    return len(_closed_sets(_needs_of(film)))


def arrangement_at(film, number):
    """Return the arrangement with a number; OrderError("number") if there is none."""
    needs = _needs_of(film)
    ways = _ways_on(film)
    if not 0 <= number < ways[0]:
        raise OrderError("number")
    row = []
    shot = 0
    left = number
    for _ in needs:
        for scene in _free_of(needs, shot):
            count = ways[shot | (1 << scene)]
            if left < count:
                break
            left = left - count
        row.append(scene)
        shot = shot | (1 << scene)
    return tuple(row)


def number_of(film, arrangement):
    """Return the number of an arrangement; OrderError("arrangement") if it is none."""
    needs = _needs_of(film)
    if sorted(arrangement) != list(range(len(needs))):
        raise OrderError("arrangement")
    ways = _ways_on(film)
    number = 0
    shot = 0
    for scene in arrangement:
        free = _free_of(needs, shot)
        if scene not in free:
            raise OrderError("arrangement")
        number = number + sum([ways[shot | (1 << other)] for other in free if other < scene])
        shot = shot | (1 << scene)
    return number


def _needs_of(film):
    """Return for each scene the set of those that an order puts ahead of it."""
    needs = [0] * len(film[2])
    for first, second in film[3]:
        needs[second] = needs[second] | (1 << first)
    return needs


def _free_of(needs, shot):
    """Return the ascending list of the scenes that are free for a closed set."""
    others = [scene for scene in range(len(needs)) if not shot & (1 << scene)]
    return [scene for scene in others if (needs[scene] & shot) == needs[scene]]


def _closed_sets(needs):
    """Return the list of the closed sets, those with fewer scenes first."""
    found = []
    level = [0]
    while level:
        found.extend(level)
        level = sorted({shot | (1 << scene) for shot in level for scene in _free_of(needs, shot)})
    return found


def _ways_on(film):
    """Return for each closed set in how many ways the other scenes can follow it."""
    needs = _needs_of(film)
    ways = {}
    for shot in reversed(_closed_sets(needs)):
        counts = [ways[shot | (1 << scene)] for scene in _free_of(needs, shot)]
        # Only the set of all scenes has none that is free.
        ways[shot] = sum(counts) if counts else 1
    return ways
