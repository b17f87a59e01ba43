"""What actors are told of their days, and what of it is ever taken back (points 1101 to 1104).

A course map of a day book that closes is a dict of all its stands, those of
earlier days first. A stand that is through has an empty list; any other one
the list of the pairs of a step for each triple that nature may choose: the
tuple of the calls of all actors, None for those who do not work, and the stand
to which the step leads.
"""

from callsheets.daybooks import choice, closed_walk
from callsheets.days import all_figures
from callsheets.errors import NoticeError
from callsheets.hours import hours
from callsheets.rules import CALL
from callsheets.stands import first_stand, is_through

WORDS = ("on", "off", "perhaps")
OFF = ("off", None, None)


def notice(case, book, stand, actor):
    """Return the triples (word, least call, greatest call) of an actor for the days from a stand on."""
    courses = _course_map(case, book)
    if stand not in courses or is_through(case, stand):
        raise NoticeError("stand")
    _check_actor(case, actor)
    return tuple(_notices_of(case, courses, actor)[stand])


def _check_actor(case, actor):
    if not 0 <= actor < len(case[0][1]):
        raise NoticeError("actor")


def _course_map(case, book):
    """Return the course map of a day book; NoticeError if it does not close."""
    rows_at = closed_walk(case, book)
    if rows_at is None:
        raise NoticeError("breaks")
    courses = {}
    for stand, rows in rows_at.items():
        steps = []
        for row in rows:
            for triple, told in row:
                steps.append((_calls(case, book, stand, triple), told[1]))
        courses[stand] = steps
    return courses


def _calls(case, book, stand, triple):
    """Return the tuple of the calls of all actors in a step, None for those who do not work."""
    film, calendar, _, menu, _, _ = case
    day, shot, befores, _ = stand
    rows, _ = hours(film, menu[day][choice(book, stand)], shot, triple)
    figures = all_figures(film, calendar, day, rows, befores)
    return tuple([None if row is None else row[CALL] for row in figures])


def _notices_of(case, courses, actor):
    """Return the dict of the lists of an actor's triples for the days from each stand on."""
    told = {}
    # The stands behind one are told behind it.
    for stand in reversed(list(courses)):
        steps = courses[stand]
        if steps:
            told[stand] = [_joined([_own_triple(calls[actor]) for calls, _ in steps])]
            for later in range(len(case[1][0]) - stand[0] - 1):
                told[stand].append(_joined([told[behind][later] for _, behind in steps]))
        else:
            told[stand] = [OFF for _ in case[1][0][stand[0]:]]
    return told


def _own_triple(call):
    return OFF if call is None else ("on", call, call)


def _joined(triples):
    """Return the triple for a day that may come as any of some triples tells it."""
    words = [word for word, _, _ in triples]
    word = words[0] if words.count(words[0]) == len(words) else "perhaps"
    least = min([first for _, first, _ in triples if first is not None], default=None)
    greatest = max([last for _, _, last in triples if last is not None], default=None)
    return (word, least, greatest)


def board(case, book):
    """Return the board of a day book, with the words of all actors at all stands."""
    courses = _course_map(case, book)
    notices = [_notices_of(case, courses, actor) for actor in range(len(case[0][1]))]
    told = []
    for stand in sorted(courses):
        if not is_through(case, stand):
            words = [tuple([word for word, _, _ in of_actor[stand]]) for of_actor in notices]
            told.append((stand, tuple(words)))
    return tuple(told)


def takes_board(case, book, told):
    """Return whether a board of a day book holds."""
    courses = _course_map(case, book)
    if not _is_board(case, courses, told):
        return False
    words_at = {stand: words for stand, words in told}
    return all([_hold(words_at, words, courses[stand]) for stand, words in told])


def _hold(words_at, words, steps):
    """Return whether the words of a stand are taken back in none of the steps from it."""
    for calls, behind in steps:
        for actor, of_actor in enumerate(words):
            own = "off" if calls[actor] is None else "on"
            # Behind a stand that is through nobody works.
            later = words_at[behind][actor] if behind in words_at else ["off" for _ in of_actor[1:]]
            if not all([_is_kept(word, after) for word, after in zip(of_actor, [own, *later])]):
                return False
    return True


def _is_board(case, courses, told):
    """Return whether what is told has the stands, actors and days of a board, and words."""
    wanted = [stand for stand in sorted(courses) if not is_through(case, stand)]
    if [stand for stand, _ in told] != wanted:
        return False
    for stand, words in told:
        days = len(case[1][0]) - stand[0]
        if [len(of_actor) for of_actor in words] != [days for _ in case[0][1]]:
            return False
        for of_actor in words:
            if not all([word in WORDS for word in of_actor]):
                return False
    return True


def _is_kept(word, after):
    """Return whether a word is not taken back by what is so a day later."""
    return word == "perhaps" or word == after


def held(case, book, actor):
    """Return the least and the greatest number of times that an actor is held in a course."""
    courses, words_at = _words_of(case, book, actor)
    least = {}
    greatest = {}
    # The stands behind one are told behind it.
    for stand in reversed(list(courses)):
        count = words_at[stand].count("perhaps")
        least[stand] = count + min([least[behind] for _, behind in courses[stand]], default=0)
        greatest[stand] = count + max([greatest[behind] for _, behind in courses[stand]], default=0)
    first = first_stand(case)
    return least[first], greatest[first]


def _words_of(case, book, actor):
    """Return the course map of a day book, and the dict of an actor's words at all its stands."""
    courses = _course_map(case, book)
    _check_actor(case, actor)
    notices = _notices_of(case, courses, actor)
    return courses, {stand: [word for word, _, _ in notices[stand]] for stand in courses}


def warning(case, book, actor):
    """Return the least warning of all days on which an actor works, or None if there is none."""
    courses, words_at = _words_of(case, book, actor)
    # A word "on" is never taken back: so the first stand of a course that has
    # it is the first one of all, or one to which a step leads from one without it.
    found = [days for days, word in enumerate(words_at[first_stand(case)]) if word == "on"]
    for stand, steps in courses.items():
        words = words_at[stand]
        for calls, behind in steps:
            if calls[actor] is not None and words[0] != "on":
                found.append(-1)
            for days, (old, new) in enumerate(zip(words[1:], words_at[behind])):
                if old != "on" and new == "on":
                    found.append(days)
    return min(found, default=None)


def latest_word(case, book, actor):
    """Return the greatest number of a day on whose stand an actor has the word "perhaps", or -1."""
    courses, words_at = _words_of(case, book, actor)
    return max([stand[0] for stand in courses if "perhaps" in words_at[stand]], default=-1)
