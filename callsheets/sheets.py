"""Call sheets (point 501)."""

from callsheets.calendars import MINUTES_OF_DAY
from callsheets.errors import SheetError

# The item of a list that stands for a meal; all others are numbers of scenes.
MEAL = -1
ITEM_LIMIT = 12


def check_sheet(film, sheet):
    """Return None for a right call sheet, otherwise raise SheetError."""
    call, dry, rain = sheet
    if not 0 <= call <= MINUTES_OF_DAY:
        raise SheetError("call")
    if max(len(dry), len(rain)) > ITEM_LIMIT:
        raise SheetError("long")
    if not all([_is_item(film, item) for item in (*dry, *rain)]):
        raise SheetError("item")
    if _has_twice(dry) or _has_twice(rain):
        raise SheetError("twice")


def _is_item(film, item):
    return item == MEAL or 0 <= item < len(film[2])


def _has_twice(items):
    """Return whether a list has a scene twice; there may be any number of meals."""
    scenes = [item for item in items if item != MEAL]
    return len(set(scenes)) < len(scenes)
