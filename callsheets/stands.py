"""Stands of a shooting, what nature may choose at them, and steps (points 602 and 603)."""

from callsheets.days import NOT_WORKED, all_figures, broken_by_actors, broken_by_scenes
from callsheets.errors import CaseError
from callsheets.hours import hours
from callsheets.money import day_cost
from callsheets.rules import ROW, SPAN, WRAP
from callsheets.sheets import MEAL

WEATHERS = ("dry", "rain")
# The number that stands for no actor where it is told who is ill.
NOBODY = -1


def first_stand(case):
    """Return the stand ahead of the first day."""
    return (0, (), tuple([NOT_WORKED for _ in case[0][1]]), (0, 0, 0))


def is_through(case, stand):
    """Return whether all scenes are shot at a stand."""
    return len(stand[1]) == len(case[0][2])


def natures(case, stand):
    """Return the list of the triples that nature may choose at a stand, in their order."""
    bounds = case[4]
    told = []
    for weather in WEATHERS:
        for ill in range(NOBODY, len(case[0][1])):
            for late in (0, bounds[3]):
                if may_choose(case, stand, (weather, ill, late)):
                    told.append((weather, ill, late))
    # Of triples that use as many days, the lesser one as a tuple comes first.
    return [nature for _, nature in sorted([(sum(_days_used(nature)), nature) for nature in told])]


def _days_used(nature):
    """Return how many days of rain, illness and lateness a triple makes."""
    weather, ill, late = nature
    return (1 if weather == "rain" else 0, 1 if ill != NOBODY else 0, 1 if late != 0 else 0)


def may_choose(case, stand, nature):
    """Return whether nature may choose a triple at a stand."""
    weather, ill, late = nature
    bounds = case[4]
    if weather not in WEATHERS or not NOBODY <= ill < len(case[0][1]) or late not in (0, bounds[3]):
        return False
    return all([used <= most for used, most in zip(_used_with(stand, nature), bounds)])


def _used_with(stand, nature):
    """Return what nature used up to a stand and uses by a triple together."""
    return tuple([before + more for before, more in zip(stand[3], _days_used(nature))])


def step(case, stand, number, nature):
    """Return ("stand", stand, cost) or ("break", what) for a sheet's number and a triple."""
    _check_step(case, stand, number, nature)
    return right_step(case, stand, number, nature)


def right_step(case, stand, number, nature):
    """Return what step does, for a sheet and a triple that can be chosen at the stand."""
    film, calendar, rules, menu, _, fees = case
    day, shot, befores, _ = stand
    rows, _ = hours(film, menu[day][number], shot, nature)
    what = broken_by_scenes(film, calendar, day, rows, shot, nature[0])
    if what is not None:
        return ("break", what)
    figures = all_figures(film, calendar, day, rows, befores)
    what = broken_by_actors(film, rules, figures)
    if what is not None:
        return ("break", what)
    done = tuple(sorted(list(shot) + [item for item, _, _ in rows if item != MEAL]))
    missing = [scene for scene in range(len(film[2])) if scene not in done]
    if missing and day == len(calendar[0]) - 1:
        return ("break", ("end", missing[0]))
    after = tuple([_pair_of(row) for row in figures])
    cost = sum([day_cost(fee, row[SPAN]) for fee, row in zip(fees, figures) if row is not None])
    return ("stand", (day + 1, done, after, _used_with(stand, nature)), cost)


def _check_step(case, stand, number, nature):
    if is_through(case, stand):
        raise CaseError("through")
    day = stand[0]
    if day >= len(case[1][0]):
        raise CaseError("day")
    if not 0 <= number < len(case[3][day]):
        raise CaseError("sheet")
    if not may_choose(case, stand, nature):
        raise CaseError("nature")


def _pair_of(figures):
    """Return what an actor's day is to the next one: the wrap and how many days in a row."""
    return NOT_WORKED if figures is None else (figures[WRAP], figures[ROW])
