"""Things that must look alike in scenes, and which scenes are shot again (points 1202 and 1203)."""

from itertools import combinations

from callsheets.errors import StockError

THING_LIMIT = 8
GREATEST_VALUE = 99


def check_things(film, story, things):
    """Return None for a right story and right things, otherwise raise StockError."""
    scenes = len(film[2])
    if sorted(story) != list(range(scenes)):
        raise StockError("story")
    if len(things) > THING_LIMIT:
        raise StockError("many")
    for seen, cuts in things:
        if not _is_strict([scene for scene, _ in seen], 0, scenes - 1):
            raise StockError("seen")
        if not all([0 <= value <= GREATEST_VALUE for _, value in seen]):
            raise StockError("seen")
        if not _is_strict(list(cuts), 1, scenes - 1):
            raise StockError("cuts")


def _is_strict(numbers, least, greatest):
    """Return whether a list of numbers ascends strictly within bounds."""
    return numbers == sorted(set(numbers)) and all([least <= number <= greatest for number in numbers])


def clashes(film, story, things):
    """Return the ascending tuple of the triples of a thing and two scenes that clash."""
    check_things(film, story, things)
    found = []
    for thing, (seen, cuts) in enumerate(things):
        for at, (one, value) in enumerate(seen):
            for other, other_value in seen[at + 1:]:
                if value != other_value and not _is_cut_between(story, cuts, one, other):
                    found.append((thing, one, other))
    return tuple(found)


def _is_cut_between(story, cuts, one, other):
    first, last = sorted([story.index(one), story.index(other)])
    return any([first < cut <= last for cut in cuts])


def mends(film, story, things, scenes):
    """Return whether each clash has one of the scenes of a set."""
    return _are_met(clashes(film, story, things), scenes)


def _are_met(found, scenes):
    return all([one in scenes or other in scenes for _, one, other in found])


def again(film, story, things):
    """Return the least of the sets that mend with the fewest minutes, and then the fewest scenes."""
    return _least_set(film, clashes(film, story, things))


def _least_set(film, found):
    numbers = list(range(len(film[2])))
    sets = []
    for size in range(len(numbers) + 1):
        for scenes in combinations(numbers, size):
            if _are_met(found, scenes):
                sets.append((minutes_of(film, scenes), size, scenes))
    return min(sets)[2]


def minutes_of(film, scenes):
    """Return how many minutes scenes have together."""
    return sum([film[2][scene][3] for scene in scenes])


def pledge(film, story, things, minutes):
    """Return a pledge that a set that mends needs at least some minutes."""
    found = clashes(film, story, things)
    if minutes_of(film, _least_set(film, found)) < minutes:
        raise StockError("less")
    return _pledge_of(film, found, minutes, ())


def _pledge_of(film, found, minutes, way):
    """Return the pledge behind the scenes of a way; there is a clash as long as they are too short."""
    if minutes_of(film, way) >= minutes:
        return ("enough",)
    thing, one, other = [clash for clash in found if not _are_met([clash], way)][0]
    first = _pledge_of(film, found, minutes, (*way, one))
    second = _pledge_of(film, found, minutes, (*way, other))
    return ("clash", thing, one, other, first, second)


def takes_pledge(film, story, things, minutes, tree):
    """Return whether a pledge holds for so many minutes."""
    return _is_pledge(film, clashes(film, story, things), minutes, (), tree)


def _is_pledge(film, found, minutes, way, tree):
    if tree[0] == "enough":
        return minutes_of(film, way) >= minutes
    _, thing, one, other, first, second = tree
    clash = (thing, one, other)
    if clash not in found or _are_met([clash], way):
        return False
    if not _is_pledge(film, found, minutes, (*way, one), first):
        return False
    return _is_pledge(film, found, minutes, (*way, other), second)
