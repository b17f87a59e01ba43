"""The journals of houses (point 1304)."""

from callsheets.errors import CallError, HouseError
from callsheets.house import House
from callsheets.stands import NOBODY, WEATHERS
from callsheets.words import fits, is_name, is_number, number_named, text_of

MODULUS = 65521
# The word for no actor where it is told who is ill.
NOBODY_WORD = "-"


class JournalError(CallError):
    """A journal is wrong in a line."""

    def __init__(self, code, line):
        CallError.__init__(self, code)
        self.line = line


def check_number(text):
    """Return the number that tells whether a text is still as it was written."""
    return sum([place * ord(sign) for place, sign in enumerate(text, start=1)]) % MODULUS


def journal(house):
    """Return the text with a line for each day of a house so far."""
    lines = []
    for number, (weather, ill, late) in house.days():
        name = NOBODY_WORD if ill == NOBODY else house.case[0][1][ill][0]
        told = f"day {number} {weather} {name} {late}"
        lines.append([told, "check", str(check_number(told))])
    return text_of(lines)


def replay(case, book, text):
    """Return a house that is where a journal leads; JournalError for the first wrong line."""
    house = House(case, book)
    lines = text.split("\n")
    # What is behind the last newline is a line only if the text does not end with one.
    for line, told in enumerate(lines[:-1]):
        fault = _take_line(house, told)
        if fault is not None:
            raise JournalError(fault, line)
    if lines[-1] != "":
        raise JournalError("form", len(lines) - 1)
    return house


def _take_line(house, told):
    """Return the code of the error of a line, or let its day pass and return None."""
    words = told.split(" ")
    if not fits(words[:2], "day N") or not tells_nature(words[2:5]) or not fits(words[5:], "check N"):
        return "form"
    if check_number(" ".join(words[:5])) != int(words[6]):
        return "check"
    nature = nature_told(house.case[0], words[2:5])
    try:
        house.put(int(words[1]))
        if nature is None:
            return "nature"
        house.shoot(nature)
    except HouseError as fault:
        return fault.code
    return None


def tells_nature(words):
    """Return whether words are a weather, the name of an actor or of nobody, and a number."""
    if len(words) != 3 or words[0] not in WEATHERS or not is_number(words[2]):
        return False
    return words[1] == NOBODY_WORD or is_name(words[1])


def nature_told(film, words):
    """Return the triple that such words tell, or None if the film has no actor with the name."""
    weather, name, late = words
    ill = NOBODY if name == NOBODY_WORD else number_named(film[1], name)
    return None if ill is None else (weather, ill, int(late))
