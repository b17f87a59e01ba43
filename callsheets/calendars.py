"""Calendars and their texts (points 301 and 302)."""

from callsheets.errors import CalendarError
from callsheets.words import fits, is_long, lines_of, number_named, text_of

DAY_LIMIT = 10
MINUTES_OF_DAY = 1440


class Pages:
    """What the lines of a text tell of a calendar, up to one of them."""

    def __init__(self, many):
        # How many days the whole text has: a window may stand ahead of its days.
        self.many = many
        self.lights = []
        self.away = []
        self.closed = []


def parse_calendar(film, text):
    """Return the calendar of a text; CalendarError for the first line that has an error."""
    if is_long(text):
        raise CalendarError("long", 0)
    lines = lines_of(text)
    pages = Pages(len([words for words in lines if words[:1] == ["day"]]))
    for line, words in enumerate(lines):
        fault = _take_line(film, pages, words)
        if fault is not None:
            raise CalendarError(fault, line)
    if not pages.lights:
        raise CalendarError("none", len(lines))
    return (tuple(pages.lights), tuple(sorted(set(pages.away))), tuple(sorted(set(pages.closed))))


# The functions that take a line return the code of its error, or None if they took it.


def _take_line(film, pages, words):
    if not words:
        return None
    if fits(words, "day N N"):
        return _take_day(pages, int(words[1]), int(words[2]))
    if fits(words, "away ACTOR N N"):
        return _take_window(pages, pages.away, film[1], words)
    if fits(words, "closed PLACE N N"):
        return _take_window(pages, pages.closed, film[0], words)
    return "form"


def _take_day(pages, light, dark):
    if len(pages.lights) >= DAY_LIMIT:
        return "many"
    if not are_lights(light, dark):
        return "light"
    pages.lights.append((light, dark))
    return None


def are_lights(light, dark):
    """Return whether it may be light on a day from one minute to another one."""
    return 0 <= light < dark <= MINUTES_OF_DAY


def _take_window(pages, windows, rows, words):
    """Take a window of one of the actors or places, which are the rows."""
    number = number_named(rows, words[1])
    if number is None:
        return "unknown"
    first = int(words[2])
    last = int(words[3])
    if not first <= last < pages.many:
        return "days"
    windows.append((number, first, last))
    return None


def print_calendar(film, calendar):
    """Return a text of a calendar; parsing it gives the calendar back."""
    days, away, closed = calendar
    lines = [["day", str(light), str(dark)] for light, dark in days]
    for actor, first, last in away:
        lines.append(["away", film[1][actor][0], str(first), str(last)])
    for place, first, last in closed:
        lines.append(["closed", film[0][place][0], str(first), str(last)])
    return text_of(lines)
