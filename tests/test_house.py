"""Points 1302 and 1303: houses."""

import random
import unittest

from plain_courses import closing_cases, courses_from
from small_cases import PAIR_TEXT, small_case

from callsheets.booktext import parse_book
from callsheets.calendars import parse_calendar
from callsheets.courses import run
from callsheets.daybooks import choice, explore
from callsheets.dealings import need
from callsheets.errors import CallError, HouseError, LargeError
from callsheets.films import parse_film
from callsheets.house import House
from callsheets.stands import first_stand, is_through, natures, step

FILM = parse_film(PAIR_TEXT)
BOTH, ONE, NOTHING = (600, (0, 1), (0,)), (600, (0,), (0,)), (600, (), ())
CASE = (FILM, parse_calendar(FILM, "day 400 1000\n" * 3), (), ((BOTH, ONE), (NOTHING, BOTH), (BOTH,)), (1, 1, 1, 20),
        ((100, ()), (10, ())))
BOOK = parse_book(CASE, "day 0 : 0\nday 1 : 1")
FRESH = ((-1, 0), (-1, 0))
FIRST = (0, (), FRESH, (0, 0, 0))
DRY, RAIN = ("dry", -1, 0), ("rain", -1, 0)


class FaultTest(unittest.TestCase):
    def check_fault(self, code, call, house):
        """Check that a call raises an error with this code, and changes nothing."""
        kept = (house.tonight(), house.state(), house.days())
        with self.assertRaises(HouseError) as caught:
            call()
        self.assertIs(type(caught.exception), HouseError)
        self.assertEqual(caught.exception.code, code)
        self.assertIsInstance(caught.exception, CallError)
        self.assertEqual((house.tonight(), house.state(), house.days()), kept)


class HouseTest(FaultTest):
    def test_at_first(self):
        house = House(CASE, BOOK)
        self.assertEqual(house.state(), ("open", FIRST, 0))
        self.assertEqual(house.tonight(), 0)
        self.assertEqual(house.days(), ())
        self.assertIs(house.back(), False)
        for name in ("tonight", "put", "shoot", "state", "back", "days", "surely", "need"):
            self.assertIn(name, vars(House))

    def test_days_that_pass(self):
        house = House(CASE, BOOK)
        second = (1, (0,), ((660, 1), (-1, 0)), (1, 0, 0))
        self.assertEqual(house.shoot(RAIN), ("stand", second, 100))
        self.assertEqual(house.state(), ("open", second, 100))
        self.assertEqual(house.tonight(), 1)
        self.assertEqual(house.days(), ((0, RAIN),))
        done = (2, (0, 1), ((-1, 0), (660, 1)), (1, 0, 0))
        self.assertEqual(house.shoot(DRY), ("stand", done, 10))
        self.assertEqual(house.state(), ("through", done, 110))
        self.assertIsNone(house.tonight())
        self.assertEqual(house.days(), ((0, RAIN), (1, DRY)))
        self.check_fault("over", lambda: house.put(0), house)
        self.check_fault("over", lambda: house.shoot(DRY), house)

    def test_a_break(self):
        house = House((*CASE[:4], (3, 0, 0, 20), CASE[5]), parse_book(CASE, "day 0 : 1\nday 1 : 0\nday 2 : 0"))
        house.shoot(DRY)
        house.shoot(RAIN)
        stand = house.state()[1]
        self.assertEqual(house.shoot(RAIN), ("break", ("end", 1)))
        self.assertEqual(house.state(), ("broken", stand, ("end", 1)))
        self.assertEqual(house.days(), ((1, DRY), (0, RAIN), (0, RAIN)))
        self.assertIsNone(house.tonight())
        self.check_fault("over", lambda: house.put(0), house)
        self.check_fault("over", lambda: house.shoot(DRY), house)
        self.assertIs(house.back(), True)
        self.assertEqual(house.state(), ("open", stand, 100))
        self.assertEqual(house.days(), ((1, DRY), (0, RAIN)))
        self.assertEqual(house.tonight(), 0)
        self.assertEqual(house.shoot(DRY)[0], "stand")
        self.assertEqual(house.state()[::2], ("through", 110))

    def test_put(self):
        house = House(CASE, BOOK)
        self.assertIsNone(house.put(1))
        self.assertEqual(house.tonight(), 1)
        house.put(0)
        house.put(1)
        self.assertEqual(house.tonight(), 1)
        for number in (-1, 2, 9):
            self.check_fault("sheet", lambda: house.put(number), house)
        house.shoot(DRY)
        self.assertEqual(house.days(), ((1, DRY),))
        # It was put for one day only.
        self.assertEqual(house.tonight(), choice(BOOK, house.state()[1]))
        house.put(0)
        house.shoot(DRY)
        self.assertIsNone(house.tonight())
        self.check_fault("none", lambda: house.shoot(DRY), house)
        self.check_fault("sheet", lambda: house.put(1), house)
        house.put(0)
        self.assertEqual(house.tonight(), 0)
        self.assertEqual(house.shoot(DRY)[0], "stand")
        self.assertEqual(house.state()[::2], ("through", 110))

    def test_nature(self):
        house = House(CASE, BOOK)
        for nature in (("snow", -1, 0), ("dry", 2, 0), ("dry", -2, 0), ("dry", -1, 10), ("rain", 2, 20)):
            self.check_fault("nature", lambda: house.shoot(nature), house)
        house.put(1)
        self.check_fault("nature", lambda: house.shoot(("dry", 9, 0)), house)
        house.shoot(("rain", 0, 20))
        for nature in (RAIN, ("dry", 0, 0), ("dry", -1, 20), ("rain", 1, 20)):
            self.check_fault("nature", lambda: house.shoot(nature), house)
        # No sheet comes ahead of what nature may choose.
        empty = House(CASE, ())
        self.check_fault("none", lambda: empty.shoot(("dry", 9, 0)), empty)

    def test_back(self):
        house = House(CASE, BOOK)
        house.shoot(RAIN)
        house.put(1)
        self.assertIs(house.back(), True)
        self.assertEqual(house.state(), ("open", FIRST, 0))
        # What was put behind the day is gone with it.
        self.assertEqual(house.tonight(), 0)
        house.put(1)
        house.shoot(DRY)
        self.assertIs(house.back(), True)
        # What was put for the day is gone with it.
        self.assertEqual(house.tonight(), 0)
        self.assertEqual(house.days(), ())
        self.assertIs(house.back(), False)

    def test_back_with_no_day_takes_nothing_back(self):
        house = House(CASE, BOOK)
        house.put(1)
        self.assertIs(house.back(), False)
        self.assertEqual(house.tonight(), 1)

    def test_back_behind_the_end(self):
        house = House(CASE, BOOK)
        house.shoot(DRY)
        self.assertEqual(house.state()[0], "through")
        self.assertIs(house.back(), True)
        self.assertEqual(house.state(), ("open", FIRST, 0))
        self.assertEqual(house.tonight(), 0)
        self.assertEqual(house.shoot(DRY)[2], 110)

    def test_a_film_without_scenes_is_over_at_once(self):
        case = (FILM[:2] + ((), ()) + FILM[4:], CASE[1], (), ((NOTHING,),) * 3, *CASE[4:])
        house = House(case, ((0, None, 0),))
        self.assertEqual(house.state(), ("through", FIRST, 0))
        self.assertIsNone(house.tonight())
        self.check_fault("over", lambda: house.shoot(DRY), house)
        self.assertEqual((house.surely(), house.need()), (True, 0))

    def test_two_houses(self):
        one, other = House(CASE, BOOK), House(CASE, BOOK)
        one.shoot(RAIN)
        one.put(0)
        self.assertEqual(other.state(), ("open", FIRST, 0))
        self.assertEqual((other.tonight(), other.days()), (0, ()))

    def test_against_run(self):
        source = random.Random(1)
        seen = []
        for number in range(150):
            case, book = small_case(number)
            kept = repr((case, book))
            house, course = House(case, book), []
            for _ in range(12):
                self.check_state(case, book, house, course)
                seen.append(house.state()[0])
                if course and source.random() < 0.3:
                    house.back()
                    course.pop()
                elif house.state()[0] == "open":
                    self.pass_day(source, case, book, house, course)
                elif source.random() < 0.5:
                    self.check_fault("over", lambda: house.shoot(DRY), house)
                    self.check_fault("over", lambda: house.put(0), house)
            self.assertEqual(repr((case, book)), kept)
        self.assertGreater(min(seen.count(word) for word in ("open", "through", "broken")), 100)

    def pass_day(self, source, case, book, house, course):
        stand = house.state()[1]
        number = choice(book, stand)
        if number is None or source.random() < 0.5:
            number = source.randrange(len(case[3][stand[0]]))
            house.put(number)
        nature = source.choice(natures(case, stand))
        self.assertEqual(house.tonight(), number)
        self.assertEqual(house.shoot(nature), step(case, stand, number, nature))
        course.append((number, nature))

    def check_state(self, case, book, house, course):
        stands, (word, told) = run(case, course)
        wanted = ("broken" if word == "break" else word, stands[-1], told)
        self.assertEqual(house.state(), wanted)
        self.assertEqual(house.days(), tuple(course))
        self.assertEqual(house.tonight(), choice(book, stands[-1]) if word == "open" else None)
        if word == "break":
            self.assertEqual((house.surely(), house.need()), (False, None))
        else:
            self.assertIs(house.surely(), plainly_sure(case, book, stands[-1]))
            self.assertEqual(house.need(), need(case, stands[-1]))


def plainly_sure(case, book, stand):
    """Return whether the day book breaks in no course from a stand."""
    for course in courses_from(case, book, stand):
        end = course[-1][3] if course else ("stand", stand)
        if end[0] == "break" or not is_through(case, end[1]):
            return False
    return True


class SurelyTest(unittest.TestCase):
    def test_what_is_told(self):
        house = House(CASE, BOOK)
        # Rain on the first day and illness on the second one leave the third one without a sheet.
        self.assertEqual((house.surely(), house.need()), (False, 110))
        house.shoot(("rain", 0, 0))
        self.assertEqual((house.surely(), house.need()), (True, 110))
        house.back()
        house.shoot(DRY)
        self.assertEqual((house.surely(), house.need()), (True, 0))

    def test_what_was_put_is_left_aside(self):
        case = (*CASE[:4], (1, 0, 0, 20), CASE[5])
        house = House(case, BOOK)
        self.assertEqual((house.surely(), house.need()), (True, 110))
        house.put(1)
        self.assertEqual((house.surely(), house.need()), (True, 110))
        house.shoot(DRY)
        # With rain on the second day the third one has no sheet, but there is one in the menu.
        self.assertEqual((house.surely(), house.need()), (False, 10))
        house.put(1)
        self.assertEqual((house.surely(), house.need()), (False, 10))

    def test_broken(self):
        house = House((*CASE[:4], (3, 0, 0, 20), CASE[5]), parse_book(CASE, "day 0 : 0\nday 1 : 0\nday 2 : 0"))
        for _ in range(3):
            house.shoot(RAIN)
        self.assertEqual(house.state()[0], "broken")
        self.assertEqual((house.surely(), house.need()), (False, None))

    def test_the_first_stand(self):
        for number in range(200):
            case, book = small_case(number)
            house = House(case, book)
            self.assertIs(house.surely(), explore(case, book)[0] == "closes")
            self.assertEqual(house.need(), need(case, first_stand(case)))

    def test_a_sure_house_stays_sure(self):
        source = random.Random(2)
        for case, book in closing_cases(range(200)):
            house = House(case, book)
            while house.state()[0] == "open":
                self.assertIs(house.surely(), True)
                house.shoot(source.choice(natures(case, house.state()[1])))
            self.assertEqual(house.state()[0], "through")
            self.assertIs(house.surely(), True)

    def test_large_is_counted_from_the_stand(self):
        actors = "".join(f"actor {name}\n" for name in "abcd")
        scenes = "".join(f"scene s{k} p any 60 : {'abcd'[k % 4]}\n" for k in range(12))
        film = parse_film("place p inside\n" + actors + scenes)
        sheets = tuple(((600, tuple(range(k, 12)) + tuple(range(k)), (k,)),) for k in range(10))
        case = (film, parse_calendar(film, "day 0 1440\n" * 10), (), sheets, (3, 3, 3, 20), ((1, ()),) * 4)
        house = House(case, tuple((day, None, 0) for day in range(10)))
        for call in (house.surely, house.need):
            with self.assertRaises(LargeError) as caught:
                call()
            self.assertEqual(caught.exception.code, "large")
        for nature in (("rain", 0, 20), ("rain", 1, 20), ("rain", 2, 20)):
            house.shoot(nature)
        # Nothing is left to nature from here on.
        self.assertEqual((house.state()[0], house.surely()), ("open", True))
        self.assertEqual(house.need(), need(case, house.state()[1]))
        while house.back():
            pass
        with self.assertRaises(LargeError):
            house.surely()


if __name__ == "__main__":
    unittest.main()
