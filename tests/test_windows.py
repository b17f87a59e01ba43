"""Point 303: who and what is there on a day, and when scenes can be shot."""

import unittest

from callsheets.calendars import parse_calendar
from callsheets.films import parse_film
from callsheets.windows import days_of, earliest_days, is_open, is_there

FILM = parse_film("""\
place hut inside
place bay outside
actor ann
actor ben minor
actor cid
scene talk hut day 300 : ann
scene dawn bay day 301 : ben
scene late bay night 600 : ann ben
scene free hut any 600 dry :
""")
CALENDAR = parse_calendar(FILM, """\
day 600 900
day 599 900
day 0 1440
day 600 901
away ann 0 1
away ann 3 3
away ben 2 3
away ben 2 2
closed bay 3 3
closed hut 0 0
closed hut 2 2
""")


def told(text, days, *windows):
    """Return a film of a text with a place p and actors a and b, and a calendar of whole days."""
    film = parse_film("place p inside\nplace q inside\nactor a\nactor b\n" + text)
    return film, parse_calendar(film, "day 0 1440\n" * days + "\n".join(windows))


class WindowsTest(unittest.TestCase):
    def test_is_there(self):
        self.assertEqual([is_there(CALENDAR, 0, day) for day in range(4)], [False, False, True, False])
        self.assertEqual([is_there(CALENDAR, 1, day) for day in range(4)], [True, True, False, False])
        self.assertEqual([is_there(CALENDAR, 2, day) for day in range(4)], [True, True, True, True])

    def test_is_open(self):
        self.assertEqual([is_open(CALENDAR, 0, day) for day in range(4)], [False, True, False, True])
        self.assertEqual([is_open(CALENDAR, 1, day) for day in range(4)], [True, True, True, False])

    def test_both_days_of_a_window_are_in_it(self):
        _, calendar = told("scene s p any 5 :", 10, "away a 3 6", "closed p 0 0", "closed p 9 9", "closed q 0 9")
        self.assertEqual([k for k in range(10) if not is_there(calendar, 0, k)], [3, 4, 5, 6])
        self.assertEqual([k for k in range(10) if not is_there(calendar, 1, k)], [])
        self.assertEqual([k for k in range(10) if not is_open(calendar, 0, k)], [0, 9])
        self.assertEqual([k for k in range(10) if is_open(calendar, 1, k)], [])

    def test_actors_and_places_are_not_taken_for_each_other(self):
        _, calendar = told("scene s p any 5 :", 1, "away a 0 0", "closed q 0 0")
        self.assertIs(is_there(calendar, 0, 0), False)
        self.assertIs(is_there(calendar, 1, 0), True)
        self.assertIs(is_open(calendar, 0, 0), True)
        self.assertIs(is_open(calendar, 1, 0), False)


class DaysOfTest(unittest.TestCase):
    def test_days_of(self):
        # The hut is open on days 1 and 3, Ann is there on day 2 only.
        self.assertEqual(days_of(FILM, CALENDAR, 0), ())
        # Ben is there on days 0 and 1, and day 0 has one minute of light too few.
        self.assertEqual(days_of(FILM, CALENDAR, 1), (1,))
        # Ann and Ben are never there together.
        self.assertEqual(days_of(FILM, CALENDAR, 2), ())
        self.assertEqual(days_of(FILM, CALENDAR, 3), (1, 3))

    def test_light(self):
        for light, days in (("day", (0, 2, 3)), ("night", (0, 1, 2, 3)), ("any", (0, 1, 2, 3))):
            film = parse_film("place p outside\nscene s p {} 60 dry :".format(light))
            calendar = parse_calendar(film, "day 100 160\nday 100 159\nday 0 1440\nday 1380 1440")
            self.assertEqual(days_of(film, calendar, 0), days)

    def test_all_actors_must_be_there(self):
        film, calendar = told("scene s p any 5 : a b\nscene t p any 5 : b\nscene u p any 5 :", 5,
                              "away a 0 1", "away b 3 4")
        self.assertEqual(days_of(film, calendar, 0), (2,))
        self.assertEqual(days_of(film, calendar, 1), (0, 1, 2))
        self.assertEqual(days_of(film, calendar, 2), (0, 1, 2, 3, 4))

    def test_only_the_place_of_the_scene_must_be_open(self):
        film, calendar = told("scene s p any 5 :\nscene t q any 5 :", 3, "closed p 0 1")
        self.assertEqual(days_of(film, calendar, 0), (2,))
        self.assertEqual(days_of(film, calendar, 1), (0, 1, 2))

    def test_days_are_an_ascending_tuple(self):
        film, calendar = told("scene s p any 5 :", 10, "closed p 9 9", "closed p 4 4", "closed p 0 0")
        self.assertEqual(repr(days_of(film, calendar, 0)), "(1, 2, 3, 5, 6, 7, 8)")


class EarliestDaysTest(unittest.TestCase):
    def test_without_orders(self):
        self.assertEqual(earliest_days(FILM, CALENDAR), (None, 1, None, 1))

    def test_first_and_last_day(self):
        film, calendar = told("scene s p any 5 : a\nscene t q any 5 :\nscene u q any 5 : b", 4,
                              "away a 0 2", "away b 0 3", "closed q 1 3")
        self.assertEqual(earliest_days(film, calendar), (3, 0, None))

    def test_several_scenes_on_one_day(self):
        film, calendar = told("scene s p any 600 :\nscene t p any 600 :\nscene u p any 600 :\norder s t\norder t u", 1)
        self.assertEqual(earliest_days(film, calendar), (0, 0, 0))

    def test_not_before_a_scene_that_is_ahead(self):
        scenes = "scene s p any 5 : a\nscene t q any 5 :\nscene u p any 5 : b\n"
        windows = ("away a 0 1", "away b 2 3", "closed q 3 3")
        film, calendar = told(scenes, 5, *windows)
        self.assertEqual(earliest_days(film, calendar), (2, 0, 0))
        film, calendar = told(scenes + "order s t", 5, *windows)
        self.assertEqual(earliest_days(film, calendar), (2, 2, 0))
        film, calendar = told(scenes + "order s t\norder t u", 5, *windows)
        self.assertEqual(earliest_days(film, calendar), (2, 2, 4))
        film, calendar = told(scenes + "order s u\norder t u", 5, *windows)
        self.assertEqual(earliest_days(film, calendar), (2, 0, 4))

    def test_scenes_that_are_ahead_may_have_greater_numbers(self):
        scenes = "scene s p any 5 :\nscene t p any 5 :\nscene u p any 5 : a\norder u t\norder t s"
        film, calendar = told(scenes, 4, "away a 0 1", "closed p 2 2")
        self.assertEqual(earliest_days(film, calendar), (3, 3, 3))

    def test_greatest_of_several_scenes_that_are_ahead(self):
        scenes = "scene s p any 5 : a\nscene t p any 5 : b\nscene u q any 5 :\n"
        for orders in ("order s u\norder t u", "order t u\norder s u"):
            film, calendar = told(scenes + orders, 4, "away a 0 0", "away b 0 1")
            self.assertEqual(earliest_days(film, calendar), (1, 2, 2))
            film, calendar = told(scenes + orders, 4, "away a 0 1", "away b 0 0")
            self.assertEqual(earliest_days(film, calendar), (2, 1, 2))

    def test_none(self):
        scenes = "scene s p any 5 : a\nscene t q any 5 :\nscene u q any 5 :\nscene v q any 5 : b\n"
        windows = ("away a 0 2", "away b 2 2")
        film, calendar = told(scenes + "order s t\norder t u", 3, *windows)
        self.assertEqual(earliest_days(film, calendar), (None, None, None, 0))
        film, calendar = told(scenes + "order u s\norder t u", 3, *windows)
        self.assertEqual(earliest_days(film, calendar), (None, 0, 0, 0))

    def test_none_if_only_earlier_days_are_left(self):
        film, calendar = told("scene s p any 5 : a\nscene t p any 5 : b\norder s t", 3, "away a 0 1", "away b 2 2")
        self.assertEqual(earliest_days(film, calendar), (2, None))

    def test_arguments_stay_as_they_were(self):
        before = repr((FILM, CALENDAR))
        earliest_days(FILM, CALENDAR)
        days_of(FILM, CALENDAR, 1)
        is_there(CALENDAR, 0, 0)
        is_open(CALENDAR, 0, 0)
        self.assertEqual(repr((FILM, CALENDAR)), before)


if __name__ == "__main__":
    unittest.main()
