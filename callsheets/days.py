"""The figures of an actor's day, and what a day breaks (points 503 and 504)."""

from callsheets.calendars import MINUTES_OF_DAY
from callsheets.hours import hours
from callsheets.rules import broken
from callsheets.sheets import MEAL
from callsheets.windows import is_open, is_there

# What stands for an actor who did not work the day before: no wrap, no days in a row.
NOT_WORKED = (-1, 0)
LONG_REST = 9999


def figures_of(film, calendar, day, rows, actor, before):
    """Return the figures of an actor's day, or None if the actor does not work."""
    scenes = [row for row in rows if row[0] != MEAL and actor in film[2][row[0]][5]]
    if not scenes:
        return None
    call = max(0, scenes[0][1] - film[4][1])
    wrap = scenes[-1][2]
    worked = before[0] != NOT_WORKED[0]
    return (
        call,
        wrap,
        wrap - call,
        sum([end - begin for _, begin, end in scenes]),
        max(0, call + MINUTES_OF_DAY - before[0]) if worked else LONG_REST,
        before[1] + 1 if worked else 1,
        _dark_of(calendar[0][day], scenes),
        _stretch_of(rows, call, wrap),
        len(scenes),
    )


def _dark_of(lights, scenes):
    """Return how many minutes of scenes are before the light or behind the dark of a day."""
    light, dark = lights
    minutes = 0
    for _, begin, end in scenes:
        minutes = minutes + max(0, min(end, light) - begin) + max(0, end - max(begin, dark))
    return minutes


def _stretch_of(rows, call, wrap):
    """Return the longest time between call and wrap that no meal cuts."""
    longest = 0
    since = call
    for item, begin, end in rows:
        if item == MEAL and begin >= call and end <= wrap:
            longest = max(longest, begin - since)
            since = end
    return max(longest, wrap - since)


def all_figures(film, calendar, day, rows, befores):
    """Return the list of the figures of all actors, with None for those who do not work."""
    return [figures_of(film, calendar, day, rows, actor, before) for actor, before in enumerate(befores)]


def breaks(film, calendar, rules, day, sheet, shot, befores, news):
    """Return the first thing that a day breaks, or None if it breaks nothing."""
    rows, _ = hours(film, sheet, shot, news)
    what = broken_by_scenes(film, calendar, day, rows, shot, news[0])
    if what is not None:
        return what
    return broken_by_actors(film, rules, all_figures(film, calendar, day, rows, befores))


def broken_by_scenes(film, calendar, day, rows, shot, weather):
    """Return the first thing that the scenes of a day break, or None if they break nothing."""
    done = list(shot)
    for scene, begin, end in rows:
        if scene != MEAL:
            word = _fault_of_scene(film, calendar, day, (scene, begin, end), done, weather)
            if word is not None:
                return (word, scene)
            done.append(scene)
    return None


def _fault_of_scene(film, calendar, day, row, done, weather):
    """Return the word for what a scene breaks behind those that are done, or None."""
    scene, begin, end = row
    _, place, light, _, dry, cast = film[2][scene]
    if not is_open(calendar, place, day):
        return "closed"
    if not all([is_there(calendar, actor, day) for actor in cast]):
        return "away"
    if not _is_in_light(calendar[0][day], light, begin, end):
        return "light"
    if dry and weather == "rain":
        return "wet"
    # As nothing was broken so far, all that is ahead of what is done is done,
    # too: so it is enough to look at the orders of the scene itself.
    if not all([first in done for first, second in film[3] if second == scene]):
        return "order"
    return None


def _is_in_light(lights, word, begin, end):
    """Return whether the time from begin to end is in the light that a word asks for."""
    light, dark = lights
    if word == "day":
        return begin >= light and end <= dark
    if word == "night":
        return end <= light or begin >= dark
    return True


def broken_by_actors(film, rules, figures):
    """Return the first rule that an actor's day breaks, for the figures of all actors, or None."""
    for actor, row in enumerate(figures):
        if row is not None:
            numbers = broken(film, rules, actor, row)
            if numbers:
                return ("rule", actor, numbers[0])
    return None
