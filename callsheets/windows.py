"""On which days actors are there, places are open and scenes can be shot (point 303)."""

from callsheets.orders import ahead, layers


def is_there(calendar, actor, day):
    """Return whether an actor is there on a day."""
    return not _has_window(calendar[1], actor, day)


def is_open(calendar, place, day):
    """Return whether a place is open on a day."""
    return not _has_window(calendar[2], place, day)


def _has_window(windows, number, day):
    for owner, first, last in windows:
        if owner == number and first <= day <= last:
            return True
    return False


def days_of(film, calendar, scene):
    """Return the ascending tuple of the days on which a scene can be shot."""
    days = range(len(calendar[0]))
    return tuple([day for day in days if _can_be_shot(film, calendar, scene, day)])


def _can_be_shot(film, calendar, scene, day):
    _, place, light, minutes, _, cast = film[2][scene]
    if not is_open(calendar, place, day):
        return False
    for actor in cast:
        if not is_there(calendar, actor, day):
            return False
    rise, fall = calendar[0][day]
    return light != "day" or minutes <= fall - rise


def earliest_days(film, calendar):
    """Return the tuple of the earliest days of all scenes, None for those that have none."""
    earliest = {}
    for layer in layers(film):
        for scene in layer:
            bounds = [earliest[other] for other in ahead(film, scene)]
            earliest[scene] = _first_day(days_of(film, calendar, scene), bounds)
    return tuple([earliest[scene] for scene in range(len(film[2]))])


def _first_day(days, bounds):
    """Return the first of the days that is before none of the bounds, None if there is none."""
    if None in bounds:
        return None
    least = max(bounds, default=0)
    for day in days:
        if day >= least:
            return day
    return None
