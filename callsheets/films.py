"""Films and their texts (points 101 to 104)."""

from callsheets.errors import FilmError
from callsheets.orders import led_to
from callsheets.words import fits, is_long, is_name, lines_of, number_named, text_of

LIGHTS = ("day", "night", "any")
# The word, the minutes if it is not told, the least and the most.
MINUTES = (("move", 30, 0, 240), ("ready", 60, 0, 240), ("meal", 30, 5, 120))
SHORTEST_SCENE = 5
LONGEST_SCENE = 600
PLACE_LIMIT = 8
ACTOR_LIMIT = 8
SCENE_LIMIT = 12


class Draft:
    """What the lines of a text tell of a film, up to one of them."""

    def __init__(self):
        self.places = []
        self.actors = []
        self.scenes = []
        self.orders = []
        self.minutes = {}


def parse_film(text):
    """Return the film of a text; FilmError for the first line that has an error."""
    if is_long(text):
        raise FilmError("long", 0)
    draft = Draft()
    lines = lines_of(text)
    for line, words in enumerate(lines):
        fault = _take_line(draft, words)
        if fault is not None:
            raise FilmError(fault, line)
    if not draft.scenes:
        raise FilmError("none", len(lines))
    return _film_of(draft)


def _film_of(draft):
    minutes = [draft.minutes.get(word, usual) for word, usual, _, _ in MINUTES]
    return (
        tuple(draft.places),
        tuple(draft.actors),
        tuple(draft.scenes),
        tuple(sorted(draft.orders)),
        tuple(minutes),
    )


# The functions that take a line return the code of its error, or None if they took it.


def _take_place(draft, words):
    if not fits(words, "place NAME inside") and not fits(words, "place NAME outside"):
        return "form"
    fault = _fault_of_one_more(draft.places, words[1], PLACE_LIMIT)
    if fault is None:
        draft.places.append((words[1], words[2] == "outside"))
    return fault


def _take_actor(draft, words):
    if not fits(words, "actor NAME") and not fits(words, "actor NAME minor"):
        return "form"
    # These two words stand for groups of actors where rules are told.
    if words[1] in ("all", "minors"):
        return "form"
    fault = _fault_of_one_more(draft.actors, words[1], ACTOR_LIMIT)
    if fault is None:
        draft.actors.append((words[1], len(words) == 3))
    return fault


def _fault_of_one_more(rows, name, limit):
    if number_named(rows, name) is not None:
        return "twice"
    if len(rows) >= limit:
        return "many"
    return None


def _take_minutes(draft, words):
    if not fits(words[1:], "N"):
        return "form"
    if words[0] in draft.minutes:
        return "twice"
    _, _, least, most = MINUTES[number_named(MINUTES, words[0])]
    minutes = int(words[1])
    if not least <= minutes <= most:
        return "number"
    draft.minutes[words[0]] = minutes
    return None


def _take_scene(draft, words):
    dry = "dry" in words[5:6]
    behind_colon = 7 if dry else 6
    cast = words[behind_colon:]
    if not _is_head_of_scene(words[:behind_colon], dry) or not all(is_name(name) for name in cast):
        return "form"
    fault = _fault_of_one_more(draft.scenes, words[1], SCENE_LIMIT)
    if fault is not None:
        return fault
    minutes = int(words[4])
    if not SHORTEST_SCENE <= minutes <= LONGEST_SCENE:
        return "number"
    place = number_named(draft.places, words[2])
    actors = [number_named(draft.actors, name) for name in cast]
    if place is None or None in actors:
        return "unknown"
    if len(set(actors)) < len(actors):
        return "cast"
    draft.scenes.append((words[1], place, words[3], minutes, dry, tuple(sorted(actors))))
    return None


def _is_head_of_scene(words, dry):
    form = "scene NAME PLACE LIGHT N dry :" if dry else "scene NAME PLACE LIGHT N :"
    # A scene named so could not be told from a meal in a call sheet.
    return fits(words, form) and words[3] in LIGHTS and words[1] != "meal"


def _take_order(draft, words):
    if not fits(words, "order SCENE SCENE"):
        return "form"
    first = number_named(draft.scenes, words[1])
    second = number_named(draft.scenes, words[2])
    if first is None or second is None:
        return "unknown"
    if first == second or (first, second) in draft.orders:
        return "order"
    if first in led_to(draft.orders, second):
        return "circle"
    draft.orders.append((first, second))
    return None


TAKERS = {
    "place": _take_place,
    "actor": _take_actor,
    "move": _take_minutes,
    "ready": _take_minutes,
    "meal": _take_minutes,
    "scene": _take_scene,
    "order": _take_order,
}


def _take_line(draft, words):
    if not words:
        return None
    if words[0] not in TAKERS:
        return "form"
    take = TAKERS[words[0]]
    return take(draft, words)


def print_film(film):
    """Return a text of a film; parsing it gives the film back."""
    places, actors, scenes, orders, minutes = film
    lines = [[row[0], str(number)] for row, number in zip(MINUTES, minutes)]
    for name, outside in places:
        lines.append(["place", name, "outside" if outside else "inside"])
    for name, minor in actors:
        lines.append(["actor", name, "minor"] if minor else ["actor", name])
    for scene in scenes:
        lines.append(_words_of_scene(film, scene))
    for first, second in orders:
        lines.append(["order", scenes[first][0], scenes[second][0]])
    return text_of(lines)


def _words_of_scene(film, scene):
    name, place, light, minutes, dry, cast = scene
    words = ["scene", name, film[0][place][0], light, str(minutes)]
    if dry:
        words.append("dry")
    words.append(":")
    return words + [film[1][actor][0] for actor in cast]
