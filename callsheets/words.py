"""Lines, words, names and numbers of texts (point 4)."""

LETTERS = "abcdefghijklmnopqrstuvwxyz"
DIGITS = "0123456789"
NAME_LIMIT = 12
NUMBER_LIMIT = 5
TEXT_LIMIT = 6000


def is_name(text):
    """Return whether a text is a name."""
    if not 1 <= len(text) <= NAME_LIMIT:
        return False
    return text[0] in LETTERS and _is_made_of(text, LETTERS + DIGITS)


def is_number(text):
    """Return whether a text is a number."""
    if text == "0":
        return True
    if not 1 <= len(text) <= NUMBER_LIMIT:
        return False
    return text[0] != "0" and _is_made_of(text, DIGITS)


def _is_made_of(text, signs):
    return all(sign in signs for sign in text)


def lines_of(text):
    """Return the list of the lists of the words of all lines."""
    return [_words_of(line) for line in text.split("\n")]


def _words_of(line):
    # Only spaces stand between words, so split() without an argument, which
    # cuts at tabs too, would find other ones.
    told = line.partition("#")[0]
    return [word for word in told.split(" ") if word != ""]


def text_of(lines):
    """Return the text of a list of lists of words, each line ended by a newline."""
    return "".join([" ".join(words) + "\n" for words in lines])


def is_long(text):
    """Return whether a text has more characters than one may have."""
    return len(text) > TEXT_LIMIT


def fits(words, form):
    """Return whether words have a form, in which N is a number, and a word in capitals a name."""
    parts = form.split(" ")
    if len(words) != len(parts):
        return False
    return all([_stands_for(part, word) for part, word in zip(parts, words)])


def _stands_for(part, word):
    if part == "N":
        return is_number(word)
    if part.isupper():
        return is_name(word)
    return word == part


def number_named(rows, name):
    """Return the number of the row that begins with a name, or None if there is none."""
    for number, row in enumerate(rows):
        if row[0] == name:
            return number
    return None
