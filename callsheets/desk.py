"""A desk takes texts and answers with texts (point 1305)."""

from callsheets.booktext import parse_book
from callsheets.calendars import parse_calendar
from callsheets.cases import are_bounds
from callsheets.daybooks import explore, reserve
from callsheets.dealings import best
from callsheets.errors import BookError, CalendarError, CaseError, FilmError, HouseError, LargeError, RuleError
from callsheets.films import parse_film
from callsheets.house import House
from callsheets.journal import journal, nature_told, tells_nature
from callsheets.menus import MenuError, parse_fees, parse_menu
from callsheets.ruletext import parse_rules
from callsheets.words import is_number

# The commands that tell the parts of a case, in their order.
PARTS = ("FILM", "CALENDAR", "RULES", "MENU", "BOUNDS", "FEES")
WITH_TEXT = ("FILM", "CALENDAR", "RULES", "MENU", "FEES", "BOOK")
# How many numbers stand behind the commands without a text; DAY has other words.
NUMBERS = {
    "BOUNDS": 4,
    "EXPLORE": 0,
    "RESERVE": 0,
    "BEST": 0,
    "TONIGHT": 0,
    "PUT": 1,
    "BACK": 0,
    "STATE": 0,
    "JOURNAL": 0,
}
OF_CASE = ("EXPLORE", "RESERVE", "BEST")
NO_COMMAND = "NO COMMAND"


class Desk:
    """What a desk was told: the parts of a case by their commands, and the house of the day book."""

    def __init__(self):
        self.parts = {}
        self.house = None

    def answer(self, text):
        """Return the answer to a text."""
        head, newline, told = text.partition("\n")
        if newline != "":
            return _take_text(self, head, told) if head in WITH_TEXT else NO_COMMAND
        words = head.split(" ")
        if not _is_command(words):
            return NO_COMMAND
        if words[0] == "BOUNDS":
            return _take_bounds(self, tuple([int(word) for word in words[1:]]))
        if words[0] in OF_CASE:
            return _answer_of_case(self, words[0])
        if self.house is None:
            return "NO BOOK"
        return _answer_of_house(self.house, words)


def _is_command(words):
    if words[0] == "DAY":
        return tells_nature(words[1:])
    if words[0] not in NUMBERS or len(words) != NUMBERS[words[0]] + 1:
        return False
    return all([is_number(word) for word in words[1:]])


def _take_text(desk, word, text):
    lacking = _lacking(desk.parts, word)
    if lacking is not None:
        return f"NO {lacking}"
    try:
        part = _parsed(desk.parts, word, text)
    except (FilmError, CalendarError, RuleError, MenuError, BookError) as wrong:
        return f"WRONG {wrong.code} {wrong.line}"
    _take(desk, word, part)
    return "OK"


def _take_bounds(desk, bounds):
    if _lacking(desk.parts, "BOUNDS") is not None:
        return "NO FILM"
    if not are_bounds(bounds):
        return "WRONG bounds"
    _take(desk, "BOUNDS", bounds)
    return "OK"


def _lacking(parts, word):
    """Return what a command needs and is not there, or None if all is there."""
    if word != "FILM" and "FILM" not in parts:
        return "FILM"
    if word == "MENU" and "CALENDAR" not in parts:
        return "CALENDAR"
    if word == "BOOK" and len(parts) < len(PARTS):
        return "CASE"
    return None


def _parsed(parts, word, text):
    """Return what the text of a command tells."""
    if word == "FILM":
        return parse_film(text)
    if word == "CALENDAR":
        return parse_calendar(parts["FILM"], text)
    if word == "RULES":
        return parse_rules(parts["FILM"], text)
    if word == "MENU":
        return parse_menu(parts["FILM"], parts["CALENDAR"], text)
    if word == "FEES":
        return parse_fees(parts["FILM"], text)
    return parse_book(_case_of(parts), text)


def _case_of(parts):
    return tuple([parts[word] for word in PARTS])


def _take(desk, word, part):
    """Take a new part or day book, and take away what goes with what was there before."""
    if word == "BOOK":
        desk.house = House(_case_of(desk.parts), part)
        return
    if word == "FILM":
        desk.parts = {}
    if word == "CALENDAR":
        desk.parts.pop("MENU", None)
    desk.parts[word] = part
    desk.house = None


def _answer_of_case(desk, word):
    if len(desk.parts) < len(PARTS):
        return "NO CASE"
    if word != "BEST" and desk.house is None:
        return "NO BOOK"
    case = _case_of(desk.parts)
    try:
        if word == "BEST":
            return _answer_of_best(case)
        if word == "EXPLORE":
            return _answer_of_explore(case, desk.house.book)
        return str(reserve(case, desk.house.book))
    except LargeError:
        return "LARGE"
    except CaseError:
        return "BREAKS"


def _answer_of_best(case):
    told = best(case)
    return f"KEEPS {told[1]}" if told[0] == "keeps" else "NEVER"


def _answer_of_explore(case, book):
    told = explore(case, book)
    return f"CLOSES {len(told[1])}" if told[0] == "closes" else f"BREAKS {len(told[1])}"


def _answer_of_house(house, words):
    if words[0] == "TONIGHT":
        number = house.tonight()
        return "NONE" if number is None else f"SHEET {number}"
    if words[0] == "BACK":
        return "OK" if house.back() else "NONE"
    if words[0] == "STATE":
        return _answer_of_state(house)
    if words[0] == "JOURNAL":
        return journal(house)
    try:
        return _answer_of_put(house, int(words[1])) if words[0] == "PUT" else _answer_of_day(house, words[1:])
    except HouseError as wrong:
        return f"NO {wrong.code}"


def _answer_of_state(house):
    word, stand, told = house.state()
    if word == "open":
        return f"OPEN {stand[0]} {told}"
    return f"THROUGH {told}" if word == "through" else "BROKEN"


def _answer_of_put(house, number):
    house.put(number)
    return "OK"


def _answer_of_day(house, words):
    nature = nature_told(house.case[0], words)
    if nature is None:
        return NO_COMMAND
    told = house.shoot(nature)
    return "BROKEN" if told[0] == "break" else f"OK {told[2]}"
