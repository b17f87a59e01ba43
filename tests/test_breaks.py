"""Point 504: what a day breaks."""

import itertools
import unittest

from callsheets.calendars import parse_calendar
from callsheets.days import breaks, figures_of
from callsheets.films import parse_film
from callsheets.hours import hours
from callsheets.orders import ahead
from callsheets.rules import broken
from callsheets.ruletext import parse_rules

FILM = parse_film("""\
move 0
ready 60
meal 30
place hut inside
place bay outside
actor ann
actor ben minor
actor cid minor
scene day1 hut day 100 : ann
scene dusk hut night 50 : ben
scene wet bay any 20 dry : ann ben
scene last hut any 10 : cid
scene free bay day 30 :
order day1 wet
order wet last
""")
DAY1, DUSK, WET, LAST, FREE, MEAL = 0, 1, 2, 3, 4, -1
CALENDAR = parse_calendar(FILM, """\
day 400 1000
day 400 1000
day 0 1440
away ben 1 1
closed bay 1 2
away ann 2 2
""")
FRESH = ((-1, 0), (-1, 0), (-1, 0))
DRY = ("dry", -1, 0)
RAIN = ("rain", -1, 0)


def broken_by(call, items, day=0, shot=(), befores=FRESH, news=DRY, rules="", film=FILM, calendar=CALENDAR):
    """Return what the day breaks with a list for both kinds of weather."""
    return breaks(film, calendar, parse_rules(film, rules), day, (call, items, items), shot, befores, news)


def plain_breaks(film, calendar, rules, day, sheet, shot, befores, news):
    """Return what point 504 tells, as the first of all things that are broken."""
    rows, _ = hours(film, sheet, shot, news)
    told = []
    light, dark = calendar[0][day]
    for at, (scene, begin, end) in enumerate(rows):
        if scene == -1:
            continue
        _, place, word, _, dry, cast = film[2][scene]
        if any(where == place and first <= day <= last for where, first, last in calendar[2]):
            told.append(("closed", scene))
        if any(who in cast and first <= day <= last for who, first, last in calendar[1]):
            told.append(("away", scene))
        minutes = range(begin, end)
        inside = [light <= minute < dark for minute in minutes]
        if word == "day" and not all(inside):
            told.append(("light", scene))
        # At night the whole scene is on one side of the light.
        if word == "night" and not (all(m < light for m in minutes) or all(m >= dark for m in minutes)):
            told.append(("light", scene))
        if dry and news[0] == "rain":
            told.append(("wet", scene))
        done = set(shot) | {row[0] for row in rows[:at]}
        if not set(ahead(film, scene)) <= done:
            told.append(("order", scene))
    for actor in range(len(film[1])):
        figures = figures_of(film, calendar, day, rows, actor, befores[actor])
        if figures is not None:
            told += [("rule", actor, number) for number in broken(film, rules, actor, figures)]
    return told[0] if told else None


class BreaksTest(unittest.TestCase):
    def test_none_where_nothing_is_broken(self):
        self.assertIsNone(broken_by(400, ()))
        self.assertIsNone(broken_by(400, (MEAL,)))
        self.assertIsNone(broken_by(400, (DAY1, WET, MEAL, LAST, FREE)))
        self.assertIsNone(broken_by(1000, (DUSK,), rules="rule r all : scenes = 1"))

    def test_closed(self):
        self.assertEqual(broken_by(400, (FREE,), day=1), ("closed", FREE))
        self.assertEqual(broken_by(400, (LAST, DAY1, FREE), day=1, shot=(DAY1, WET)), ("closed", FREE))
        self.assertIsNone(broken_by(400, (DAY1,), day=1))

    def test_away(self):
        self.assertEqual(broken_by(1000, (DUSK,), day=1), ("away", DUSK))
        self.assertEqual(broken_by(100, (DAY1,), day=2), ("away", DAY1))
        self.assertIsNone(broken_by(1440, (DUSK,), day=2))

    def test_away_of_one_actor_of_several(self):
        calendar = (CALENDAR[0], ((1, 0, 0),), ())
        self.assertEqual(broken_by(400, (DAY1, WET), calendar=calendar), ("away", WET))
        calendar = (CALENDAR[0], ((0, 0, 0),), ())
        self.assertEqual(broken_by(400, (WET,), calendar=calendar, shot=(DAY1,)), ("away", WET))

    def test_who_is_ill_is_not_away(self):
        self.assertIsNone(broken_by(1000, (DUSK,), day=1, news=("dry", 1, 0)))

    def test_light_of_the_day(self):
        for call, what in ((399, ("light", DAY1)), (400, None), (900, None), (901, ("light", DAY1))):
            self.assertEqual(broken_by(call, (DAY1,)), what, call)

    def test_light_of_the_night(self):
        for call, what in (
            (349, None), (350, None), (351, ("light", DUSK)), (400, ("light", DUSK)), (700, ("light", DUSK)),
            (999, ("light", DUSK)), (1000, None), (1300, None), (1439, None),
        ):
            self.assertEqual(broken_by(call, (DUSK,)), what, call)

    def test_a_night_that_goes_around_the_whole_light(self):
        film = parse_film("place p inside\nscene n p night 600 :")
        calendar = parse_calendar(film, "day 700 701")
        self.assertEqual(broken_by(600, (0,), film=film, calendar=calendar, befores=()), ("light", 0))
        self.assertIsNone(broken_by(100, (0,), film=film, calendar=calendar, befores=()))
        self.assertIsNone(broken_by(701, (0,), film=film, calendar=calendar, befores=()))
        self.assertEqual(broken_by(101, (0,), film=film, calendar=calendar, befores=()), ("light", 0))

    def test_any_light(self):
        for call in (0, 395, 700, 995, 1440):
            self.assertIsNone(broken_by(call, (LAST,), shot=(DAY1, WET)))

    def test_a_late_begin_moves_out_of_the_light(self):
        self.assertIsNone(broken_by(880, (DAY1,), news=("dry", -1, 20)))
        self.assertEqual(broken_by(881, (DAY1,), news=("dry", -1, 20)), ("light", DAY1))

    def test_wet(self):
        self.assertEqual(broken_by(400, (DAY1, WET), news=RAIN), ("wet", WET))
        self.assertEqual(broken_by(400, (LAST, WET), shot=(DAY1, WET), news=RAIN), None)
        self.assertIsNone(broken_by(400, (DAY1, WET), news=DRY))
        self.assertIsNone(broken_by(400, (DAY1, FREE), news=RAIN))

    def test_order(self):
        self.assertEqual(broken_by(400, (WET,)), ("order", WET))
        self.assertEqual(broken_by(400, (WET, DAY1)), ("order", WET))
        self.assertEqual(broken_by(400, (LAST,)), ("order", LAST))
        self.assertEqual(broken_by(400, (LAST,), shot=(DAY1,)), ("order", LAST))
        self.assertEqual(broken_by(400, (DAY1, LAST)), ("order", LAST))
        self.assertIsNone(broken_by(400, (LAST,), shot=(DAY1, WET)))
        self.assertIsNone(broken_by(400, (WET, LAST), shot=(DAY1,)))
        self.assertIsNone(broken_by(400, (DAY1, WET, LAST)))

    def test_order_kept_and_broken_on_the_same_day(self):
        self.assertEqual(broken_by(400, (DAY1, LAST, WET)), ("order", LAST))

    def test_what_fell_is_not_shot(self):
        self.assertEqual(broken_by(400, (DAY1, WET, LAST), news=("dry", 1, 0)), ("order", LAST))
        self.assertIsNone(broken_by(400, (DAY1, WET, LAST), shot=(DAY1, WET), news=("dry", 1, 0)))
        self.assertIsNone(broken_by(400, (DAY1, WET), news=("dry", 0, 0)))

    def test_what_is_shot_already_breaks_nothing(self):
        self.assertIsNone(broken_by(0, (DAY1, WET), day=2, shot=(DAY1, WET), news=RAIN))

    def test_the_first_scene_comes_first(self):
        # The first scene breaks the order, the second one the light.
        self.assertEqual(broken_by(1000, (WET, DAY1)), ("order", WET))
        self.assertEqual(broken_by(1000, (DAY1, WET)), ("light", DAY1))
        # The lesser number does not matter.
        self.assertEqual(broken_by(500, (LAST, WET, DUSK)), ("order", LAST))

    def test_the_order_for_one_scene(self):
        film = parse_film("""\
move 0
place p inside
actor x
scene a p any 5 :
scene b p day 5 dry : x
order a b
""")
        windows = ["closed p 0 0", "away x 0 0"]
        for count, what in enumerate(("closed", "away", "light")):
            calendar = parse_calendar(film, "day 600 700\n" + "\n".join(windows[count:]))
            told = broken_by(0, (1,), film=film, calendar=calendar, befores=((-1, 0),), news=RAIN)
            self.assertEqual(told, (what, 1))
        told = broken_by(600, (1,), film=film, calendar=calendar, befores=((-1, 0),), news=RAIN)
        self.assertEqual(told, ("wet", 1))
        told = broken_by(600, (1,), film=film, calendar=calendar, befores=((-1, 0),), news=DRY)
        self.assertEqual(told, ("order", 1))
        told = broken_by(600, (1,), film=film, calendar=calendar, befores=((-1, 0),), shot=(0,))
        self.assertIsNone(told)

    def test_rules_for_all(self):
        rules = "rule short all : work < 100\nrule early all : wrap <= 500"
        self.assertEqual(broken_by(400, (DAY1,), rules=rules), ("rule", 0, 0))
        self.assertEqual(broken_by(1000, (DUSK,), rules=rules), ("rule", 1, 1))
        self.assertIsNone(broken_by(400, (FREE,), rules=rules))

    def test_rules_for_minors(self):
        rules = "rule none minors : scenes = 0"
        self.assertIsNone(broken_by(400, (DAY1,), rules=rules))
        self.assertEqual(broken_by(1000, (DUSK,), rules=rules), ("rule", 1, 0))
        self.assertEqual(broken_by(400, (DAY1, WET, LAST), rules=rules), ("rule", 1, 0))

    def test_rules_for_one_actor(self):
        rules = "rule none ann : scenes = 0\nrule more cid : scenes > 1"
        self.assertEqual(broken_by(400, (DAY1, WET, LAST), rules=rules), ("rule", 0, 0))
        self.assertEqual(broken_by(400, (LAST,), rules=rules, shot=(DAY1, WET)), ("rule", 2, 1))
        self.assertIsNone(broken_by(1000, (DUSK,), rules=rules))

    def test_actors_come_ahead_of_rules(self):
        rules = "rule b ben : scenes = 0\nrule a ann : scenes = 0"
        self.assertEqual(broken_by(400, (DAY1, WET), rules=rules), ("rule", 0, 1))

    def test_the_first_rule_of_an_actor(self):
        rules = "rule a all : scenes > 0\nrule b all : work > 1000\nrule c all : work > 2000"
        self.assertEqual(broken_by(400, (DAY1,), rules=rules), ("rule", 0, 1))

    def test_scenes_come_ahead_of_rules(self):
        rules = "rule none all : scenes = 0"
        self.assertEqual(broken_by(400, (DAY1, LAST), rules=rules), ("order", LAST))

    def test_rules_see_the_day_before(self):
        rules = "rule rest all : rest >= 600 and row < 3"
        # The call of ann is at 340.
        for before, what in (
            ((-1, 0), None), ((1180, 1), None), ((1181, 1), ("rule", 0, 0)), ((1000, 1), None),
            ((1000, 2), ("rule", 0, 0)),
        ):
            self.assertEqual(broken_by(400, (DAY1,), befores=(before, (-1, 0), (9999, 9)), rules=rules), what)

    def test_against_a_plain_reading(self):
        rules = parse_rules(FILM, "rule a minors : wrap < 1030\nrule b ann : rest > 400 or dark = 0\nrule c all : row < 3")
        count = 0
        for items in [row for n in range(4) for row in itertools.permutations((-1, 0, 1, 2, 3, 4), n)]:
            for shot in ((), (0,), (0, 2)):
                for call, day, weather, ill in itertools.product((300, 400, 990), range(3), ("dry", "rain"), (-1, 1)):
                    befores = ((1400, 1), (-1, 0), (500, 2)) if ill == -1 else FRESH
                    given = (FILM, CALENDAR, rules, day, (call, items, items[::-1]), shot, befores, (weather, ill, 0))
                    told = breaks(*given)
                    self.assertEqual(told, plain_breaks(*given), given[3:])
                    count += told is not None
        self.assertGreater(count, 1000)

    def test_arguments_stay_as_they_were(self):
        rules = parse_rules(FILM, "rule a all : wrap < 1030")
        given = (FILM, CALENDAR, rules, 0, (400, (0, 2), ()), (), FRESH, DRY)
        kept = repr(given)
        breaks(*given)
        self.assertEqual(repr(given), kept)


if __name__ == "__main__":
    unittest.main()
