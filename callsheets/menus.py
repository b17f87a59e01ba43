"""The texts of menus and fees (point 1301)."""

from callsheets.cases import SHEET_LIMIT
from callsheets.errors import CallError, MoneyError, SheetError
from callsheets.money import check_fees
from callsheets.sheets import MEAL, check_sheet
from callsheets.words import fits, is_long, is_name, lines_of, number_named, text_of

MEAL_WORD = "meal"


class MenuError(CallError):
    """A text of a menu or of fees is wrong in a line."""

    def __init__(self, code, line):
        CallError.__init__(self, code)
        self.line = line


def parse_menu(film, calendar, text):
    """Return the menu of a text; MenuError for the first line that has an error."""
    if is_long(text):
        raise MenuError("long", 0)
    menu = [[] for _ in calendar[0]]
    lines = lines_of(text)
    for line, words in enumerate(lines):
        fault = _take_sheet(film, menu, words) if words else None
        if fault is not None:
            raise MenuError(fault, line)
    if [] in menu:
        raise MenuError("none", len(lines))
    return tuple([tuple(sheets) for sheets in menu])


def _take_sheet(film, menu, words):
    """Return the code of the error of a line, or add its sheet to the menu and return None."""
    names = words[4:]
    if not fits(words[:4], "sheet N N :") or names.count("/") != 1:
        return "form"
    if not all([name == "/" or is_name(name) for name in names]):
        return "form"
    at = names.index("/")
    dry = _items_of(film, names[:at])
    rain = _items_of(film, names[at + 1:])
    if None in dry or None in rain:
        return "unknown"
    day = int(words[1])
    if day >= len(menu):
        return "day"
    if len(menu[day]) >= SHEET_LIMIT:
        return "many"
    sheet = (int(words[2]), dry, rain)
    try:
        check_sheet(film, sheet)
    except SheetError as fault:
        return fault.code
    menu[day].append(sheet)
    return None


def _items_of(film, names):
    """Return the list for names, with None for what is neither a scene nor a meal."""
    return tuple([MEAL if name == MEAL_WORD else number_named(film[2], name) for name in names])


def print_menu(film, menu):
    """Return a text of a menu; parsing it gives the menu back."""
    lines = []
    for day, sheets in enumerate(menu):
        for call, dry, rain in sheets:
            head = ["sheet", str(day), str(call), ":"]
            lines.append(head + _names_of(film, dry) + ["/"] + _names_of(film, rain))
    return text_of(lines)


def _names_of(film, items):
    return [MEAL_WORD if item == MEAL else film[2][item][0] for item in items]


def parse_fees(film, text):
    """Return the fees of a text; MenuError for the first line that has an error."""
    if is_long(text):
        raise MenuError("long", 0)
    # For each actor what a fee line tells, None without one, and the steps.
    rows = [(None, ()) for _ in film[1]]
    for line, words in enumerate(lines_of(text)):
        fault = _take_fee(film, rows, words) if words else None
        if fault is not None:
            raise MenuError(fault, line)
    return _fees_of(rows)


def _take_fee(film, rows, words):
    """Return the code of the error of a line, or add it to the row of its actor and return None."""
    is_fee = fits(words, "fee ACTOR N")
    if not is_fee and not fits(words, "over ACTOR N N"):
        return "form"
    actor = number_named(film[1], words[1])
    if actor is None:
        return "unknown"
    fee, steps = rows[actor]
    if is_fee and fee is not None:
        return "twice"
    rows[actor] = (int(words[2]), steps) if is_fee else (fee, (*steps, (int(words[2]), int(words[3]))))
    try:
        check_fees(film, _fees_of(rows))
    except MoneyError as fault:
        return fault.code
    return None


def _fees_of(rows):
    return tuple([(0 if fee is None else fee, steps) for fee, steps in rows])


def print_fees(film, fees):
    """Return a text of fees; parsing it gives the fees back."""
    lines = []
    for (name, _), (fee, steps) in zip(film[1], fees):
        lines.append(["fee", name, str(fee)])
        lines.extend([["over", name, str(span), str(pay)] for span, pay in steps])
    return text_of(lines)
