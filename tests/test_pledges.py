"""Point 1203: pledges that a set that mends needs at least some minutes."""

import random
import unittest

from plain_stories import film_of, plain_again, plain_clashes, random_story

from callsheets.continuity import again, pledge, takes_pledge
from callsheets.errors import CallError, StockError

FILM = film_of(30, 60, 45, 30)
STORY = (0, 1, 2, 3)
# The clashes are (0, 0, 1), (0, 1, 3) and (1, 1, 2).
THINGS = ((((0, 1), (1, 2), (3, 1)), ()), (((1, 7), (2, 8)), ()))
ENOUGH = ("enough",)


def holds(film, found, minutes, way, tree):
    """Return what point 1203 tells of a pledge, for the scenes of the way so far."""
    if tree == ENOUGH:
        return sum(film[2][scene][3] for scene in set(way)) >= minutes
    _, thing, one, other, first, second = tree
    if (thing, one, other) not in found or one in way or other in way:
        return False
    return holds(film, found, minutes, way + [one], first) and holds(film, found, minutes, way + [other], second)


def minutes_of(film, scenes):
    return sum(film[2][scene][3] for scene in scenes)


def plain_pledge(film, found, minutes, way):
    if minutes_of(film, way) >= minutes:
        return ENOUGH
    thing, one, other = min(clash for clash in found if clash[1] not in way and clash[2] not in way)
    return ("clash", thing, one, other, plain_pledge(film, found, minutes, [*way, one]),
            plain_pledge(film, found, minutes, [*way, other]))


def nodes_of(tree, path=()):
    """Yield all nodes with the way to them, as a row of places in the tuples."""
    yield path, tree
    for at in (4, 5):
        if tree != ENOUGH:
            yield from nodes_of(tree[at], (*path, at))


def with_node(tree, path, node):
    if not path:
        return node
    return tree[:path[0]] + (with_node(tree[path[0]], path[1:], node),) + tree[path[0] + 1:]


class PledgeTest(unittest.TestCase):
    def test_what_is_told(self):
        self.assertEqual(again(FILM, STORY, THINGS), (1,))
        self.assertEqual(pledge(FILM, STORY, THINGS, 0), ENOUGH)
        self.assertEqual(pledge(FILM, STORY, THINGS, 30), ("clash", 0, 0, 1, ENOUGH, ENOUGH))
        self.assertEqual(pledge(FILM, STORY, THINGS, 60), (
            "clash", 0, 0, 1, ("clash", 0, 1, 3, ENOUGH, ENOUGH), ENOUGH,
        ))

    def test_less(self):
        for minutes in (61, 62, 165, 166, 10 ** 6):
            with self.assertRaises(StockError) as caught:
                pledge(FILM, STORY, THINGS, minutes)
            self.assertIs(type(caught.exception), StockError)
            self.assertEqual(caught.exception.code, "less")
            self.assertIsInstance(caught.exception, CallError)
        self.assertEqual(pledge(FILM, STORY, (), 0), ENOUGH)
        with self.assertRaises(StockError):
            pledge(FILM, STORY, (), 1)

    def test_errors_of_the_things_first(self):
        for story, things, code in (
            ((0, 1, 2), THINGS, "story"), (STORY, THINGS * 5, "many"), (STORY, ((((4, 0),), ()),), "seen"),
            (STORY, (((), (4,)),), "cuts"),
        ):
            for call in (lambda: pledge(FILM, story, things, 10 ** 6), lambda: takes_pledge(FILM, story, things, 0, ENOUGH)):
                with self.assertRaises(StockError) as caught:
                    call()
                self.assertEqual(caught.exception.code, code)

    def test_small_stories(self):
        source = random.Random(5)
        depths = []
        for _ in range(200):
            film, story, things = random_story(source, 7)
            least = minutes_of(film, plain_again(film, story, things))
            found = plain_clashes(story, things)
            for minutes in {0, 1, least // 2, least - 1, least}:
                if minutes >= 0 and minutes <= least:
                    told = pledge(film, story, things, minutes)
                    self.assertEqual(told, plain_pledge(film, found, minutes, []))
                    self.assertIs(takes_pledge(film, story, things, minutes, told), True)
                    depths.append(max(len(path) for path, _ in nodes_of(told)))
                    wanted = holds(film, found, minutes + 5, [], told)
                    self.assertIs(takes_pledge(film, story, things, minutes + 5, told), wanted)
            with self.assertRaises(StockError):
                pledge(film, story, things, least + 1)
        self.assertGreater(max(depths), 3)

    def test_more_minutes_than_the_least_set_has(self):
        source = random.Random(6)
        for _ in range(60):
            film, story, things = random_story(source, 6)
            least = minutes_of(film, plain_again(film, story, things))
            for minutes in range(0, least + 1, 5):
                told = pledge(film, story, things, minutes)
                self.assertIs(takes_pledge(film, story, things, least + 1, told), False)

    def test_arguments_stay_as_they_were(self):
        kept = repr((FILM, STORY, THINGS))
        takes_pledge(FILM, STORY, THINGS, 60, pledge(FILM, STORY, THINGS, 60))
        self.assertEqual(repr((FILM, STORY, THINGS)), kept)


class TakesPledgeTest(unittest.TestCase):
    TOLD = ("clash", 0, 0, 1, ("clash", 0, 1, 3, ENOUGH, ENOUGH), ENOUGH)

    def check(self, minutes, tree, wanted):
        self.assertIs(takes_pledge(FILM, STORY, THINGS, minutes, tree), wanted, tree)

    def test_for_other_minutes(self):
        for minutes, wanted in ((0, True), (59, True), (60, True), (61, False), (90, False)):
            self.check(minutes, self.TOLD, wanted)
        self.check(0, ENOUGH, True)
        self.check(1, ENOUGH, False)

    def test_a_branch_cut_off(self):
        self.check(60, ("clash", 0, 0, 1, ENOUGH, ENOUGH), False)
        self.check(30, ("clash", 0, 0, 1, ENOUGH, ENOUGH), True)
        self.check(31, ("clash", 0, 0, 1, ENOUGH, ENOUGH), False)

    def test_branches_exchanged(self):
        self.check(60, ("clash", 0, 0, 1, ENOUGH, self.TOLD[4]), False)
        # Where the other pledge stands, scene 1 is shot again already.
        self.check(0, ("clash", 0, 0, 1, ENOUGH, self.TOLD[4]), False)

    def test_other_clashes(self):
        self.check(45, ("clash", 1, 1, 2, ENOUGH, ENOUGH), True)
        self.check(30, ("clash", 0, 1, 3, ENOUGH, ENOUGH), True)
        for clash in ((0, 1, 2), (0, 0, 3), (1, 0, 1), (0, 1, 0), (2, 0, 1), (0, 3, 1), (1, 2, 1), (0, 1, 1), (-1, 0, 1)):
            self.check(0, ("clash", *clash, ENOUGH, ENOUGH), False)

    def test_a_scene_twice_on_a_way(self):
        self.check(0, ("clash", 0, 0, 1, ("clash", 0, 0, 1, ENOUGH, ENOUGH), ENOUGH), False)
        self.check(0, ("clash", 0, 0, 1, ("clash", 1, 1, 2, ENOUGH, ENOUGH), ENOUGH), True)
        self.check(0, ("clash", 0, 0, 1, ENOUGH, ("clash", 1, 1, 2, ENOUGH, ENOUGH)), False)
        self.check(0, ("clash", 1, 1, 2, ENOUGH, ("clash", 0, 0, 1, ENOUGH, ENOUGH)), True)

    def test_each_node_changed(self):
        source = random.Random(7)
        seen = [0, 0]
        for _ in range(80):
            film, story, things = random_story(source, 6)
            found = plain_clashes(story, things)
            minutes = minutes_of(film, plain_again(film, story, things))
            told = pledge(film, story, things, minutes)
            for path, node in nodes_of(told):
                others = [ENOUGH] + [("clash", *clash, ENOUGH, ENOUGH) for clash in found]
                if node != ENOUGH:
                    others += [(*node[:4], node[5], node[4]), (*node[:2], node[3], node[2], *node[4:]), (node[0], 7, *node[2:])]
                for other in others:
                    tree = with_node(told, path, other)
                    for asked in (minutes, minutes - 5):
                        wanted = holds(film, found, asked, [], tree)
                        seen[wanted] += 1
                        self.assertIs(takes_pledge(film, story, things, asked, tree), wanted)
        self.assertGreater(min(seen), 300)


if __name__ == "__main__":
    unittest.main()
