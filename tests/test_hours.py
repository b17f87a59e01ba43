"""Point 502: the hours of a call sheet."""

import itertools
import unittest

from callsheets.films import parse_film
from callsheets.hours import hours

FILM = parse_film("""\
place hut inside
place bay outside
actor ann
actor ben
scene a hut day 90 : ann
scene b bay day 60 dry : ann ben
scene c hut any 45 : ben
""")
# As the one above, with other minutes, and a scene with nobody in it.
OTHER = parse_film("""\
move 7
ready 11
meal 5
place p inside
place q inside
place r outside
actor x
actor y
scene s0 p any 10 : x
scene s1 p any 20 : y
scene s2 q any 40 :
scene s3 r night 80 : x y
scene s4 q day 160 dry : y
""")
DRY = ("dry", -1, 0)
RAIN = ("rain", -1, 0)


def plain_hours(film, sheet, shot, news):
    """Return what point 502 tells, minute by minute."""
    items = list(sheet[2 if news[0] == "rain" else 1])
    clock = sheet[0] + news[2]
    place = None
    told, fallen = [], set()
    while items:
        item = items.pop(0)
        if item == -1:
            told.append((-1, clock, clock + film[4][2]))
            clock += film[4][2]
        elif item in shot:
            pass
        elif news[1] in film[2][item][5]:
            fallen.add(item)
        else:
            if place not in (None, film[2][item][1]):
                clock += film[4][0]
            place = film[2][item][1]
            told.append((item, clock, clock + film[2][item][3]))
            clock = told[-1][2]
    return tuple(told), tuple(sorted(fallen))


class HoursTest(unittest.TestCase):
    def test_examples_of_the_interface(self):
        sheet = (480, (0, -1, 1, 2), (2,))
        self.assertEqual(
            hours(FILM, sheet, (), ("dry", -1, 10)),
            (((0, 490, 580), (-1, 580, 610), (1, 640, 700), (2, 730, 775)), ()),
        )
        self.assertEqual(hours(FILM, sheet, (0,), ("dry", 1, 0)), (((-1, 480, 510),), (1, 2)))

    def test_an_empty_list(self):
        self.assertEqual(hours(FILM, (480, (), (0,)), (), DRY), ((), ()))
        self.assertEqual(hours(FILM, (480, (0,), ()), (), RAIN), ((), ()))

    def test_the_list_is_the_one_for_the_weather(self):
        sheet = (480, (0,), (2, 0))
        self.assertEqual(hours(FILM, sheet, (), DRY), (((0, 480, 570),), ()))
        self.assertEqual(hours(FILM, sheet, (), RAIN), (((2, 480, 525), (0, 525, 615)), ()))

    def test_rain_leaves_scenes_that_want_it_dry_in_the_list(self):
        self.assertEqual(hours(FILM, (480, (), (1,)), (), RAIN), (((1, 480, 540),), ()))

    def test_the_first_scene_needs_no_move(self):
        self.assertEqual(hours(FILM, (0, (1,), ()), (), DRY), (((1, 0, 60),), ()))

    def test_moves_are_only_between_places(self):
        self.assertEqual(
            hours(OTHER, (100, (0, 1, 2, 4, 3), ()), (), DRY),
            (((0, 100, 110), (1, 110, 130), (2, 137, 177), (4, 177, 337), (3, 344, 424)), ()),
        )

    def test_back_to_the_first_place(self):
        self.assertEqual(
            hours(OTHER, (100, (0, 2, 1), ()), (), DRY), (((0, 100, 110), (2, 117, 157), (1, 164, 184)), ())
        )

    def test_no_minutes_of_a_move(self):
        film = parse_film("move 0\nplace p inside\nplace q inside\nscene a p any 5 :\nscene b q any 5 :")
        self.assertEqual(hours(film, (0, (0, 1), ()), (), DRY), (((0, 0, 5), (1, 5, 10)), ()))

    def test_a_scene_that_is_shot_already_is_passed_over(self):
        self.assertEqual(hours(OTHER, (100, (0, 2, 1), ()), (2,), DRY), (((0, 100, 110), (1, 110, 130)), ()))
        self.assertEqual(hours(OTHER, (100, (0, 2, 1), ()), (0, 1, 2), DRY), ((), ()))

    def test_a_place_that_is_passed_over_is_not_gone_to(self):
        self.assertEqual(hours(OTHER, (100, (2, 0), ()), (2,), DRY), (((0, 100, 110),), ()))

    def test_scenes_of_who_is_ill_fall(self):
        self.assertEqual(hours(OTHER, (100, (0, 1, 2, 3, 4), ()), (), ("dry", 0, 0)), (
            ((1, 100, 120), (2, 127, 167), (4, 167, 327)), (0, 3)
        ))
        self.assertEqual(hours(OTHER, (100, (4, 3, 2, 1, 0), ()), (), ("dry", 1, 0)), (
            ((2, 100, 140), (0, 147, 157)), (1, 3, 4)
        ))

    def test_what_fell_is_told_ascending_without_scenes_that_are_shot(self):
        self.assertEqual(hours(OTHER, (0, (4, 3, 1), ()), (3,), ("dry", 1, 0)), ((), (1, 4)))

    def test_only_scenes_of_the_list_for_the_weather_fall(self):
        self.assertEqual(hours(OTHER, (0, (0,), (3,)), (), ("dry", 0, 0)), ((), (0,)))
        self.assertEqual(hours(OTHER, (0, (0,), (3,)), (), ("rain", 0, 0)), ((), (3,)))

    def test_meals_at_the_ends_and_in_the_middle(self):
        self.assertEqual(hours(OTHER, (100, (-1, 0, -1, -1, 2, -1), ()), (), DRY), (
            ((-1, 100, 105), (0, 105, 115), (-1, 115, 120), (-1, 120, 125), (2, 132, 172), (-1, 172, 177)), ()
        ))

    def test_a_meal_does_not_change_the_place(self):
        self.assertEqual(
            hours(OTHER, (100, (0, -1, 1), ()), (), DRY), (((0, 100, 110), (-1, 110, 115), (1, 115, 135)), ())
        )

    def test_a_late_begin(self):
        self.assertEqual(hours(OTHER, (1440, (-1, 0), ()), (), ("dry", -1, 240)), (
            ((-1, 1680, 1685), (0, 1685, 1695)), ()
        ))

    def test_a_day_may_go_beyond_midnight(self):
        self.assertEqual(hours(OTHER, (1440, (4,), ()), (), DRY), (((4, 1440, 1600),), ()))

    def test_all_short_lists(self):
        lists = [row for n in range(4) for row in itertools.permutations((-1, 0, 1, 2, 3, 4), n)]
        for items in lists:
            for shot in ((), (1,), (0, 3), (2, 4)):
                for news in itertools.product(("dry", "rain"), (-1, 0, 1), (0, 15)):
                    sheet = (50, items, items[::-1])
                    self.assertEqual(hours(OTHER, sheet, shot, news), plain_hours(OTHER, sheet, shot, news))

    def test_arguments_stay_as_they_were(self):
        given = (OTHER, (100, (0, -1), (2,)), (1,), ("rain", 0, 5))
        kept = repr(given)
        hours(*given)
        self.assertEqual(repr(given), kept)


if __name__ == "__main__":
    unittest.main()
