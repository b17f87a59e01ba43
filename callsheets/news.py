"""News of a case (point 1001)."""

from callsheets.cases import SHEET_LIMIT, are_bounds
from callsheets.calendars import are_lights
from callsheets.errors import MendError
from callsheets.sheets import check_sheet

# The places of what news change, in a case and in a calendar.
CALENDAR = 1
MENU = 3
BOUNDS = 4
DAYS = 0
AWAY = 1
CLOSED = 2


def with_news(case, news):
    """Return the case that news make; MendError or SheetError for news that are wrong."""
    changed = _changed(case, news)
    if changed == case:
        raise MendError("idle")
    return changed


def _changed(case, news):
    word = news[0]
    if word == "bounds":
        return _with_bounds(case, news[1])
    if word == "light":
        return _with_light(case, news[1], news[2], news[3])
    if word == "sheet":
        return _with_sheet(case, news[1], news[2])
    place = AWAY if word in ("away", "back") else CLOSED
    # The windows of actors and of places stand where films have these, turned round.
    many = len(case[0][1]) if place == AWAY else len(case[0][0])
    if not 0 <= news[1] < many:
        raise MendError("unknown")
    if word in ("away", "closed"):
        return _with_window(case, place, news[1:])
    return _without_day(case, place, news[1], news[2])


def _put(row, at, part):
    """Return a tuple with another part at a place."""
    return (*row[:at], part, *row[at + 1:])


def _check_days(case, first, last):
    if not 0 <= first <= last < len(case[CALENDAR][DAYS]):
        raise MendError("day")


def _with_bounds(case, bounds):
    if not are_bounds(bounds):
        raise MendError("bounds")
    return _put(case, BOUNDS, bounds)


def _with_light(case, day, light, dark):
    _check_days(case, day, day)
    if not are_lights(light, dark):
        raise MendError("light")
    calendar = case[CALENDAR]
    return _put(case, CALENDAR, _put(calendar, DAYS, _put(calendar[DAYS], day, (light, dark))))


def _with_sheet(case, day, sheet):
    _check_days(case, day, day)
    menu = case[MENU]
    if len(menu[day]) >= SHEET_LIMIT:
        raise MendError("many")
    check_sheet(case[0], sheet)
    return _put(case, MENU, _put(menu, day, (*menu[day], sheet)))


def _with_window(case, place, window):
    _check_days(case, window[1], window[2])
    return _with_windows(case, place, [*case[CALENDAR][place], window])


def _with_windows(case, place, windows):
    return _put(case, CALENDAR, _put(case[CALENDAR], place, tuple(sorted(set(windows)))))


def _without_day(case, place, number, day):
    """Return the case in which no window of an actor or a place has a day."""
    _check_days(case, day, day)
    windows = []
    for owner, first, last in case[CALENDAR][place]:
        if owner == number and first <= day <= last:
            left = [(owner, first, day - 1), (owner, day + 1, last)]
            windows.extend([window for window in left if window[1] <= window[2]])
        else:
            windows.append((owner, first, last))
    return _with_windows(case, place, windows)
