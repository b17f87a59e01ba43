"""Small cases with day books for the tests: all their courses can be gone through one by one."""

import random

from callsheets.booktext import parse_book
from callsheets.calendars import parse_calendar
from callsheets.cases import check_case
from callsheets.films import parse_film
from callsheets.ruletext import parse_rules

RULES = (
    "rule r{} all : rest >= 1000", "rule r{} all : row < 2", "rule r{} all : scenes < 3", "rule r{} minors : span < 200",
    "rule r{} a : wrap <= 760", "rule r{} all : dark = 0", "rule r{} b : stretch <= 150 or row = 1",
)
TESTS = ("shot s0", "not shot s1", "worked a", "rains > 0", "ills = 0", "lates < 1", "shot s0 and shot s1 or worked a")

# A film with one scene for each of two actors, the second one not in rain.
PAIR_TEXT = """\
ready 60
place p inside
actor ann
actor ben
scene a p any 60 : ann
scene b p any 60 dry : ben
"""


def small_case(number):
    """Return the case with a number, always the same one, and a day book for it."""
    source = random.Random(number)
    scenes = source.choice((2, 3, 3))
    days = source.choice((2, 3, 3))
    film = parse_film(film_text(source, scenes))
    calendar = parse_calendar(film, calendar_text(source, days))
    rules = source.sample(RULES, source.choice((0, 0, 1, 1, 2)))
    told = parse_rules(film, "\n".join(rule.format(k) for k, rule in enumerate(rules)))
    menu = tuple(
        tuple(sheet(source, scenes, day == days - 1) for _ in range(source.choice((1, 2, 2, 3)))) for day in range(days)
    )
    bounds = (*source.choice(((0, 0, 0), (1, 0, 0), (0, 1, 0), (0, 0, 1), (1, 0, 1), (0, 1, 1), (1, 1, 0))), 30)
    fees = tuple((source.choice((0, 5, 20)), source.choice(((), ((90, 3),), ((60, 1), (120, 7))))) for _ in range(2))
    case = (film, calendar, told, menu, bounds, fees)
    check_case(case)
    return case, parse_book(case, book_text(source, case))


def film_text(source, scenes):
    lines = ["move 15", "ready 30", "place p inside", "place q outside", "actor a", "actor b minor"]
    for scene in range(scenes):
        light = source.choice(("any", "any", "day"))
        dry = source.choice(("", "", "", "dry "))
        cast = source.choice(("", "a", "a", "b", "a b"))
        lines.append(f"scene s{scene} {source.choice('pq')} {light} {source.choice((30, 60))} {dry}: {cast}")
    if source.random() < 0.3:
        lines.append("order s0 s1")
    return "\n".join(lines)


def calendar_text(source, days):
    lines = ["day 400 800"] * days
    if source.random() < 0.2:
        lines.append(f"away b {days - 2} {days - 2}")
    if source.random() < 0.2:
        lines.append("closed q 0 0")
    return "\n".join(lines)


def sheet(source, scenes, is_last):
    return (source.choice((395, 400, 500, 600, 700)), items(source, scenes, is_last), items(source, scenes, is_last))


def items(source, scenes, is_last):
    told = list(range(scenes))
    if source.random() < 0.3:
        source.shuffle(told)
    if not is_last or source.random() < 0.1:
        told = told[:source.choice((0, 1, 1, 2, 3))]
    if source.random() < 0.4:
        told.insert(source.randrange(len(told) + 1), -1)
    return tuple(told)


def book_text(source, case):
    lines = []
    for day, sheets in enumerate(case[3]):
        if source.random() < 0.5:
            lines.append(f"day {day} if {source.choice(TESTS)} : {source.randrange(len(sheets))}")
        if source.random() < 0.95:
            lines.append(f"day {day} : {source.randrange(len(sheets))}")
    if source.random() < 0.3:
        source.shuffle(lines)
    return "\n".join(lines)
