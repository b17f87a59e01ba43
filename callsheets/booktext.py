"""The texts of day books (points 701 and 702)."""

from callsheets.conditions import SIGNS, tree_of, words_of
from callsheets.errors import BookError
from callsheets.words import fits, is_long, is_number, lines_of, number_named, text_of

# What the places of the numbers of days that nature used are called.
USED = ("rains", "ills", "lates")
LINE_LIMIT = 60


def parse_book(case, text):
    """Return the day book of a text; BookError for the first line that has an error."""
    if is_long(text):
        raise BookError("long", 0)
    book = []
    for line, words in enumerate(lines_of(text)):
        if words:
            fault = _take_line(case, book, words)
            if fault is not None:
                raise BookError(fault, line)
    return tuple(book)


def _take_line(case, book, words):
    """Return the code of the error of a line, or add its triple to the list and return None."""
    tokens = []
    tree = None
    if not fits(words, "day N : N"):
        tokens = _tokens_of(case[0], words[3:-2])
        tree = tree_of(tokens)
        if not fits(words[:3], "day N if") or not fits(words[-2:], ": N") or tree is None:
            return "form"
    # The number of a scene or an actor is None if the film does not have the name.
    if ("shot", None) in tokens or ("worked", None) in tokens:
        return "unknown"
    day = int(words[1])
    number = int(words[-1])
    if day >= len(case[1][0]):
        return "day"
    if number >= len(case[3][day]):
        return "sheet"
    if len(book) >= LINE_LIMIT:
        return "many"
    book.append((day, tree, number))
    return None


def _tokens_of(film, words):
    """Return the tokens of a test, with the words that begin none as they are."""
    tokens = []
    at = 0
    while at < len(words):
        if fits(words[at:at + 2], "shot SCENE"):
            tokens.append(("shot", number_named(film[2], words[at + 1])))
            at = at + 2
        elif fits(words[at:at + 2], "worked ACTOR"):
            tokens.append(("worked", number_named(film[1], words[at + 1])))
            at = at + 2
        elif _is_count(words[at:at + 3]):
            tokens.append(("used", USED.index(words[at]), words[at + 1], int(words[at + 2])))
            at = at + 3
        else:
            tokens.append(words[at])
            at = at + 1
    return tokens


def _is_count(words):
    return len(words) == 3 and words[0] in USED and words[1] in SIGNS and is_number(words[2])


def print_book(case, book):
    """Return a text of a day book; parsing it gives the day book back."""
    lines = []
    for day, test, number in book:
        words = ["day", str(day)]
        if test is not None:
            words = words + ["if"] + words_of(test, lambda atom: _words_of_atom(case[0], atom))
        lines.append(words + [":", str(number)])
    return text_of(lines)


def _words_of_atom(film, atom):
    if atom[0] == "shot":
        return ["shot", film[2][atom[1]][0]]
    if atom[0] == "worked":
        return ["worked", film[1][atom[1]][0]]
    _, place, sign, number = atom
    return [USED[place], sign, str(number)]
