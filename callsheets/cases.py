"""Cases: all that is told of a shooting ahead of it (point 601)."""

from callsheets.errors import CaseError
from callsheets.money import check_fees
from callsheets.sheets import check_sheet

SHEET_LIMIT = 6
DAYS_OF_NATURE = 3
SHORTEST_LATE = 5
LONGEST_LATE = 240


def check_case(case):
    """Return None for a right case, otherwise raise CaseError, SheetError or MoneyError."""
    film, calendar, _, menu, bounds, fees = case
    if len(menu) != len(calendar[0]):
        raise CaseError("menu")
    if not all([1 <= len(sheets) <= SHEET_LIMIT for sheets in menu]):
        raise CaseError("menu")
    for sheets in menu:
        for sheet in sheets:
            check_sheet(film, sheet)
    if not are_bounds(bounds):
        raise CaseError("bounds")
    check_fees(film, fees)


def are_bounds(bounds):
    """Return whether the numbers of bounds are right."""
    rains, ills, lates, minutes = bounds
    if not all([0 <= most <= DAYS_OF_NATURE for most in (rains, ills, lates)]):
        return False
    return SHORTEST_LATE <= minutes <= LONGEST_LATE
