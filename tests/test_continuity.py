"""Point 1202: things that must look alike, and scenes that are shot again."""

import itertools
import random
import time
import unittest

from plain_stories import film_of, plain_again, plain_clashes, random_story

from callsheets.continuity import again, check_things, clashes, mends
from callsheets.errors import CallError, StockError

FILM = film_of(30, 60, 45, 30, 90)
STORY = (2, 0, 3, 1, 4)


class CheckThingsTest(unittest.TestCase):
    def check_fault(self, code, story, things):
        for call in (
            lambda: check_things(FILM, story, things), lambda: clashes(FILM, story, things),
            lambda: mends(FILM, story, things, (0,)), lambda: again(FILM, story, things),
        ):
            with self.assertRaises(StockError) as caught:
                call()
            self.assertIs(type(caught.exception), StockError)
            self.assertEqual(caught.exception.code, code, (story, things))
            self.assertIsInstance(caught.exception, CallError)

    def test_right_things(self):
        self.assertIsNone(check_things(FILM, STORY, ()))
        self.assertIsNone(check_things(FILM, (0, 1, 2, 3, 4), (((), ()),) * 8))
        self.assertIsNone(check_things(FILM, STORY, ((((0, 0), (4, 99)), (1, 4)), (((2, 5),), (1, 2, 3, 4)))))

    def test_story(self):
        for story in ((), (0, 1, 2, 3), (0, 1, 2, 3, 3), (0, 1, 2, 3, 5), (0, 1, 2, 3, 4, 4), (0, 1, 2, 3, 4, 5), (-1, 0, 1, 2, 3)):
            self.check_fault("story", story, ())

    def test_many(self):
        self.check_fault("many", STORY, (((), ()),) * 9)

    def test_seen(self):
        for seen in (
            ((5, 0),), ((-1, 0),), ((0, 100),), ((0, -1),), ((1, 0), (0, 0)), ((1, 0), (1, 0)), ((1, 0), (1, 1)),
            ((0, 0), (2, 0), (1, 0)), ((0, 0), (4, 100)),
        ):
            self.check_fault("seen", STORY, ((seen, ()),))
            self.check_fault("seen", STORY, ((((0, 0),), (1,)), (seen, ())))

    def test_cuts(self):
        for cuts in ((0,), (5,), (-1,), (2, 1), (1, 1), (1, 2, 5), (0, 1)):
            self.check_fault("cuts", STORY, ((((0, 0),), cuts),))

    def test_the_first_code_of_two(self):
        bad_seen, bad_cuts = (((5, 0),), ()), ((), (0,))
        self.check_fault("story", (0, 1, 2, 3, 3), (bad_seen,) * 9)
        self.check_fault("many", STORY, (bad_seen,) * 9)
        self.check_fault("seen", STORY, ((((5, 0),), (0,)),))
        self.check_fault("cuts", STORY, (bad_cuts, bad_seen))
        self.check_fault("seen", STORY, (bad_seen, bad_cuts))


class ClashesTest(unittest.TestCase):
    def test_values(self):
        self.assertEqual(clashes(FILM, STORY, ()), ())
        self.assertEqual(clashes(FILM, STORY, ((((0, 1), (3, 1), (4, 1)), ()),)), ())
        self.assertEqual(clashes(FILM, STORY, ((((0, 1), (3, 2), (4, 1)), ()),)), ((0, 0, 3), (0, 3, 4)))
        self.assertEqual(clashes(FILM, STORY, ((((0, 1), (3, 2)), ()), (((0, 1),), ()), (((1, 0), (2, 9)), ()))),
                         ((0, 0, 3), (2, 1, 2)))

    def test_cuts_at_ahead_of_and_behind_both_places(self):
        # In the story scene 0 has the place 1 and scene 1 the place 3.
        for cut, apart in ((1, False), (2, True), (3, True), (4, False)):
            wanted = () if apart else ((0, 0, 1),)
            self.assertEqual(clashes(FILM, STORY, ((((0, 1), (1, 2)), (cut,)),)), wanted, cut)
        self.assertEqual(clashes(FILM, STORY, ((((0, 1), (1, 2)), (1, 4)),)), ((0, 0, 1),))
        self.assertEqual(clashes(FILM, STORY, ((((0, 1), (1, 2)), (1, 3, 4)),)), ())
        # Scene 2 is the first one of the story, scene 4 the last one.
        for cut in (1, 2, 3, 4):
            self.assertEqual(clashes(FILM, STORY, ((((2, 1), (4, 2)), (cut,)),)), ())

    def test_against_the_parts_of_the_story(self):
        source = random.Random(1)
        seen = 0
        for _ in range(300):
            film, story, things = random_story(source, 7)
            told = clashes(film, story, things)
            self.assertEqual(told, plain_clashes(story, things))
            seen += len(told)
        self.assertGreater(seen, 300)


class AgainTest(unittest.TestCase):
    def test_mends(self):
        things = ((((0, 1), (3, 2), (4, 1)), ()),)
        for scenes, wanted in (((), False), ((0,), False), ((3,), True), ((0, 4), True), ((4,), False), ((0, 1, 2), False),
                               ((0, 1, 2, 3, 4), True), ((0, 3), True)):
            self.assertIs(mends(FILM, STORY, things, scenes), wanted)
        self.assertIs(mends(FILM, STORY, (), ()), True)

    def test_the_fewest_minutes(self):
        # Scene 1 is in both clashes, but as long as the two others together.
        film = film_of(30, 60, 30, 45, 5)
        story = (0, 1, 2, 3, 4)
        things = ((((0, 1), (1, 2)), ()), (((1, 1), (2, 2)), ()))
        self.assertEqual(again(film, story, things), (1,))
        self.assertEqual(again(film_of(30, 61, 30, 45, 5), story, things), (0, 2))
        self.assertEqual(again(film_of(30, 59, 30, 45, 5), story, things), (1,))

    def test_the_least_tuple(self):
        film = film_of(30, 30, 30)
        self.assertEqual(again(film, (0, 1, 2), ((((1, 1), (2, 2)), ()),)), (1,))
        self.assertEqual(again(film, (2, 1, 0), ((((0, 1), (1, 2), (2, 3)), ()),)), (0, 1))
        self.assertEqual(again(film, (0, 1, 2), ()), ())

    def test_against_all_sets(self):
        source = random.Random(2)
        for _ in range(200):
            film, story, things = random_story(source, 7)
            told = again(film, story, things)
            self.assertEqual(told, plain_again(film, story, things))
            self.assertIs(mends(film, story, things, told), True)
            found = plain_clashes(story, things)
            for size in range(len(film[2]) + 1):
                for scenes in itertools.combinations(range(len(film[2])), size):
                    wanted = all(one in scenes or other in scenes for _, one, other in found)
                    self.assertIs(mends(film, story, things, scenes), wanted)

    def test_twelve_scenes(self):
        film = film_of(*range(50, 62))
        things = tuple((tuple((scene, scene * (thing + 1)) for scene in range(12)), ()) for thing in range(8))
        begun = time.monotonic()
        self.assertEqual(again(film, tuple(range(12)), things), tuple(range(11)))
        self.assertLess(time.monotonic() - begun, 20)

    def test_arguments_stay_as_they_were(self):
        source = random.Random(3)
        for _ in range(30):
            told = random_story(source, 6)
            kept = repr(told)
            check_things(*told)
            clashes(*told)
            again(*told)
            mends(*told, (0,))
            self.assertEqual(repr(told), kept)


if __name__ == "__main__":
    unittest.main()
