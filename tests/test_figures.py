"""Point 503: the figures of an actor's day."""

import itertools
import unittest

from callsheets.calendars import parse_calendar
from callsheets.days import figures_of
from callsheets.films import parse_film
from callsheets.hours import hours
from callsheets.rules import FIGURES

FILM = parse_film("""\
move 20
ready 45
meal 30
place hut inside
place bay outside
actor ann
actor ben
actor cid
scene a hut any 90 : ann
scene b bay any 60 : ann ben
scene c hut any 45 : ben
""")
CALENDAR = parse_calendar(FILM, "day 360 1080\nday 500 560\nday 0 1440")
A, B, C, MEAL = 0, 1, 2, -1


def figures(rows, actor=0, before=(-1, 0), day=0, film=FILM, calendar=CALENDAR):
    """Return the figures as a dict of their words."""
    return dict(zip(FIGURES, figures_of(film, calendar, day, rows, actor, before), strict=True))


def plain_figures(film, calendar, day, rows, actor, before):
    """Return what point 503 tells, with the minutes of the day as a list."""
    mine = [(begin, end) for item, begin, end in rows if item >= 0 and actor in film[2][item][5]]
    if not mine:
        return None
    call = max(min(begin for begin, _ in mine) - film[4][1], 0)
    wrap = max(end for _, end in mine)
    light, dark = calendar[0][day]
    at_work = [minute for begin, end in mine for minute in range(begin, end)]
    cuts = [call]
    for item, begin, end in rows:
        if item == -1 and call <= begin and end <= wrap:
            cuts += [begin, end]
    cuts.append(wrap)
    rest = 9999 if before[0] == -1 else max(call + 1440 - before[0], 0)
    return (
        call, wrap, wrap - call, len(at_work), rest, 1 if before[0] == -1 else before[1] + 1,
        len([minute for minute in at_work if not light <= minute < dark]),
        max(cuts[k + 1] - cuts[k] for k in range(0, len(cuts), 2)), len(mine),
    )


class FiguresTest(unittest.TestCase):
    def test_all_nine(self):
        rows = ((A, 490, 580), (MEAL, 580, 610), (B, 630, 690), (C, 710, 755))
        self.assertEqual(figures_of(FILM, CALENDAR, 0, rows, 0, (-1, 0)), (445, 690, 245, 150, 9999, 1, 0, 135, 2))
        self.assertEqual(figures_of(FILM, CALENDAR, 0, rows, 1, (700, 2)), (585, 755, 170, 105, 1325, 3, 0, 170, 2))

    def test_none_for_who_does_not_work(self):
        rows = ((MEAL, 400, 430), (C, 430, 475))
        self.assertIsNone(figures_of(FILM, CALENDAR, 0, rows, 0, (-1, 0)))
        self.assertIsNone(figures_of(FILM, CALENDAR, 0, rows, 2, (900, 3)))
        self.assertIsNone(figures_of(FILM, CALENDAR, 0, (), 1, (900, 3)))
        self.assertIsNone(figures_of(FILM, CALENDAR, 0, ((MEAL, 400, 430),), 2, (-1, 0)))

    def test_the_last_scene_in_a_cast_is_no_meal(self):
        # -1 for a meal would be the last scene of the tuple, too.
        rows = ((MEAL, 400, 430), (A, 430, 520), (MEAL, 520, 550))
        self.assertIsNone(figures_of(FILM, CALENDAR, 0, rows, 1, (-1, 0)))
        self.assertEqual(figures(rows)["work"], 90)

    def test_call_wrap_span_work_and_scenes(self):
        told = figures(((C, 400, 445), (A, 465, 555), (C, 555, 600), (B, 620, 680), (C, 700, 745)))
        self.assertEqual(told["call"], 420)
        self.assertEqual(told["wrap"], 680)
        self.assertEqual(told["span"], 260)
        self.assertEqual(told["work"], 150)
        self.assertEqual(told["scenes"], 2)

    def test_a_call_that_would_be_below_0(self):
        for begin, call in ((0, 0), (44, 0), (45, 0), (46, 1)):
            told = figures(((A, begin, begin + 90),))
            self.assertEqual(told["call"], call)
            self.assertEqual(told["span"], begin + 90 - call)
            self.assertEqual(told["stretch"], begin + 90 - call)

    def test_rest_and_row(self):
        rows = ((A, 405, 495),)
        for before, rest, row in [
            ((-1, 0), 9999, 1), ((0, 1), 1800, 2), ((1080, 4), 720, 5), ((1800, 1), 0, 2), ((1801, 1), 0, 2),
            ((1799, 9), 1, 10), ((9000, 2), 0, 3),
        ]:
            told = figures(rows, before=before)
            self.assertEqual((told["rest"], told["row"]), (rest, row), before)

    def test_rest_from_a_call_at_0(self):
        self.assertEqual(figures(((A, 10, 100),), before=(1440, 1))["rest"], 0)
        self.assertEqual(figures(((A, 10, 100),), before=(1300, 1))["rest"], 140)

    def test_dark(self):
        # The light of day 1 is from 500 to 560.
        for begin, minutes in [
            (0, 90), (410, 90), (411, 89), (480, 50 - 20), (499, 1 + 29), (500, 30), (559, 89), (560, 90), (900, 90),
            (470, 30),
        ]:
            self.assertEqual(figures(((A, begin, begin + 90),), day=1)["dark"], minutes, begin)

    def test_dark_of_several_scenes(self):
        self.assertEqual(figures(((A, 420, 510), (C, 510, 555), (B, 555, 615)), day=1)["dark"], 80 + 55)
        self.assertEqual(figures(((A, 420, 510), (C, 510, 555), (B, 555, 615)), 1, day=1)["dark"], 55)

    def test_beyond_midnight_it_is_behind_dark(self):
        self.assertEqual(figures(((A, 1400, 1490),), day=2)["dark"], 50)
        self.assertEqual(figures(((A, 1800, 1890),), day=2)["dark"], 90)

    def test_stretch_without_meals(self):
        self.assertEqual(figures(((A, 490, 580), (B, 600, 660)))["stretch"], 660 - 445)

    def test_stretch_is_the_longest_part(self):
        told = figures(((A, 490, 580), (MEAL, 580, 610), (B, 700, 760)))
        self.assertEqual(told["stretch"], 150)
        told = figures(((A, 490, 580), (MEAL, 580, 610), (MEAL, 700, 730), (B, 730, 790)))
        self.assertEqual(told["stretch"], 135)
        told = figures(((A, 490, 580), (MEAL, 580, 610), (MEAL, 800, 830), (B, 830, 890)))
        self.assertEqual(told["stretch"], 190)

    def test_a_meal_at_the_call(self):
        # The call is at 445, the wrap at 580.
        scene = (A, 490, 580)
        self.assertEqual(figures(((MEAL, 445, 475), scene))["stretch"], 105)
        self.assertEqual(figures(((MEAL, 446, 476), scene))["stretch"], 104)
        self.assertEqual(figures(((MEAL, 444, 474), scene))["stretch"], 135)
        self.assertEqual(figures(((MEAL, 300, 330), scene))["stretch"], 135)

    def test_a_meal_at_the_wrap(self):
        # The call is at 55, the wrap at 190; meals of hours never end within a scene, those of a test may.
        scene = (A, 100, 190)
        self.assertEqual(figures((scene, (MEAL, 160, 190)))["stretch"], 105)
        self.assertEqual(figures((scene, (MEAL, 161, 191)))["stretch"], 135)
        self.assertEqual(figures((scene, (MEAL, 190, 220)))["stretch"], 135)
        self.assertEqual(figures((scene, (MEAL, 300, 330)))["stretch"], 135)

    def test_meals_of_hours_before_the_call_and_behind_the_wrap(self):
        film = parse_film("ready 30\nmeal 30\nplace p inside\nactor x\nscene s p any 60 : x\nscene t p any 60 :")
        calendar = parse_calendar(film, "day 0 1440")
        for items, stretch in [
            ((-1, 0), 60), ((0, -1), 90), ((1, -1, 0, -1), 60), ((-1, 1, 0), 90), ((0, 1, -1), 90), ((-1, -1, 0), 60),
        ]:
            rows, _ = hours(film, (600, items, ()), (), ("dry", -1, 0))
            self.assertEqual(figures(rows, film=film, calendar=calendar)["stretch"], stretch, items)
        # One minute less to be ready, and the meal begins ahead of the call.
        film = film[:4] + ((30, 29, 30),)
        rows, _ = hours(film, (600, (-1, 0), ()), (), ("dry", -1, 0))
        self.assertEqual(figures(rows, film=film, calendar=calendar)["stretch"], 89)

    def test_without_minutes_to_be_ready(self):
        film = FILM[:4] + ((20, 0, 30),)
        told = figures(((A, 490, 580),), film=film)
        self.assertEqual((told["call"], told["span"], told["stretch"]), (490, 90, 90))

    def test_against_a_plain_reading(self):
        lists = [row for n in range(5) for row in itertools.product((A, B, C, MEAL), repeat=n)]
        lists = [row for row in lists if all(row.count(scene) < 2 for scene in (A, B, C))]
        self.assertGreater(len(lists), 100)
        for items in lists:
            for call, day in itertools.product((0, 20, 300, 480, 500, 1060, 1440), range(3)):
                rows, _ = hours(FILM, (call, items, ()), (), ("dry", -1, 0))
                for actor, before in itertools.product(range(3), ((-1, 0), (900, 2), (1900, 1))):
                    given = (FILM, CALENDAR, day, rows, actor, before)
                    self.assertEqual(figures_of(*given), plain_figures(*given), given[2:])

    def test_arguments_stay_as_they_were(self):
        given = (FILM, CALENDAR, 0, ((A, 490, 580), (MEAL, 580, 610)), 0, (800, 2))
        kept = repr(given)
        figures_of(*given)
        self.assertEqual(repr(given), kept)


if __name__ == "__main__":
    unittest.main()
