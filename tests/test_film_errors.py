"""Point 103: the errors of the texts of films."""

import unittest

from callsheets.errors import FilmError
from callsheets.films import parse_film

HEAD = "place hut inside\nactor ann\nactor ben minor\nscene s hut day 60 : ann\n"
# The first line behind the head.
NEXT = 4
PLACES = "".join("place p{} inside\n".format(k) for k in range(8))
ACTORS = "".join("actor a{}\n".format(k) for k in range(8))
SCENES = "place hut inside\n" + "".join("scene s{} hut any 5 :\n".format(k) for k in range(12))
LETTERS = "place p inside\n" + "".join("scene {} p any 5 :\n".format(name) for name in "abcde")


def fault(text):
    """Return the code and the line of the error of a text, or None if it has none."""
    try:
        parse_film(text)
    except FilmError as error:
        return error.code, error.line
    return None


class FilmErrorsTest(unittest.TestCase):
    def check(self, head, line, code):
        with self.subTest(line):
            expected = None if code is None else (code, head.count("\n"))
            self.assertEqual(fault(head + line), expected)
            self.assertEqual(fault(head + line + "\n"), expected)

    def test_long(self):
        self.assertEqual(fault(HEAD + "#" * (6001 - len(HEAD))), ("long", 0))
        self.assertEqual(fault(HEAD + "#" * (6000 - len(HEAD))), None)
        self.assertEqual(fault("\n" * 6001), ("long", 0))
        self.assertEqual(fault("\nfoo" + " " * 6000), ("long", 0))

    def test_form(self):
        for line in (
            "foo", "Place bay inside", "place", "place bay", "place bay outdoors", "place bay inside now",
            "place Bay inside", "place 1bay inside", "place abcdefghijklm inside", "place inside", "\tplace bay inside",
            "place bay inside\t", "place\tbay inside",
            "actor", "actor Cid", "actor cid major", "actor cid minor now", "actor all", "actor minors",
            "actor all minor", "actor minors minor", "actor cid : minor",
            "move", "move x", "move 1 2", "move 007", "move -1", "move +1", "move 100000", "ready", "ready now",
            "meal", "meal 1.5", "meal N", "ready 00", "moves 3", "move :",
            "scene", "scene t", "scene t hut", "scene t hut day", "scene t hut day 60", "scene t hut day 60 ann",
            "scene t hut day 60: ann", "scene t hut dusk 60 : ann", "scene t hut Day 60 : ann", "scene t hut 60 : ann",
            "scene t hut day : ann", "scene t hut day x : ann", "scene t hut day 060 : ann", "scene t hut day 100000 :",
            "scene t hut day 60 wet : ann", "scene t hut day 60 dry ann", "scene t hut day 60 dry dry : ann",
            "scene t hut day 60 dry", "scene t hut day dry 60 : ann", "scene t hut day 60 : ann :",
            "scene t hut day 60 : Ann", "scene t hut day 60 : 1", "scene t hut day 60 : ann ben x_y",
            "scene t hut day 60 : abcdefghijklm", "scene t Hut day 60 : ann", "scene T hut day 60 : ann",
            "scene meal hut day 60 : ann", "scene meal hut day 60 dry :", "scene t hut day 60 : : ann", "scene s",
            "order", "order s", "order s s s", "order s S", "order s 1", "order : s", "orders s s",
        ):
            self.check(HEAD, line, "form")

    def test_twice(self):
        self.check(HEAD, "place hut inside", "twice")
        self.check(HEAD, "place hut outside", "twice")
        self.check(HEAD, "actor ann", "twice")
        self.check(HEAD, "actor ann minor", "twice")
        self.check(HEAD, "actor ben", "twice")
        self.check(HEAD, "scene s hut night 5 dry :", "twice")
        for word in ("move", "ready", "meal"):
            self.check(HEAD + word + " 50\n", word + " 50", "twice")
            self.check(HEAD + word + " 50\n", word + " 60", "twice")

    def test_not_twice(self):
        for line in ("place ann inside", "place s inside", "actor hut", "actor s", "scene ann hut day 60 :",
                     "scene hut hut day 60 :"):
            self.check(HEAD, line, None)
        self.check(HEAD + "move 50\nready 50\n", "meal 50", None)
        self.check(HEAD + "ready 50\nmeal 50\n", "move 50", None)
        self.check(HEAD + "move 50\nmeal 50\n", "ready 50", None)

    def test_many(self):
        self.check(PLACES, "scene s p7 any 5 :", None)
        self.check(PLACES, "place p8 inside", "many")
        self.check(PLACES + ACTORS, "scene s p0 any 5 : a7", None)
        self.check(PLACES + ACTORS, "actor a8 minor", "many")
        self.check(SCENES, "order s0 s11", None)
        self.check(SCENES, "scene s12 hut any 5 :", "many")

    def test_number(self):
        for line in (
            "move 241", "move 99999", "ready 241", "ready 1000", "meal 4", "meal 0", "meal 121",
            "scene t hut day 4 :", "scene t hut day 0 : ann", "scene t hut day 601 : ann",
            "scene t hut day 601 dry : ann", "scene t hut day 4 dry :",
        ):
            self.check(HEAD, line, "number")
        for line in (
            "move 240", "move 0", "ready 240", "ready 0", "meal 5", "meal 120",
            "scene t hut day 5 :", "scene t hut day 600 : ann",
        ):
            self.check(HEAD, line, None)

    def test_unknown(self):
        for line in (
            "scene t bay day 60 : ann", "scene t bay day 60 :", "scene t ann day 60 :", "scene t hut day 60 : cid",
            "scene t hut day 60 : ann cid", "scene t hut day 60 : cid ann", "scene t hut day 60 : hut",
            "scene t hut day 60 : all", "scene t hut day 60 : minors",
            "order s t", "order t s", "order t t", "order hut s", "order s ann", "order meal s",
        ):
            self.check(HEAD, line, "unknown")

    def test_names_of_later_lines_are_unknown(self):
        self.assertEqual(fault("scene s hut day 60 :\nplace hut inside"), ("unknown", 0))
        self.assertEqual(fault("place hut inside\nscene s hut day 60 : ann\nactor ann"), ("unknown", 1))
        self.assertEqual(fault(HEAD + "order s t\nscene t hut day 60 :"), ("unknown", NEXT))

    def test_cast(self):
        self.check(HEAD, "scene t hut day 60 : ann ann", "cast")
        self.check(HEAD, "scene t hut day 60 dry : ben ann ben", "cast")
        self.check(HEAD, "scene t hut day 60 : ben ann", None)

    def test_order(self):
        self.check(HEAD, "order s s", "order")
        self.check(LETTERS + "order a b\n", "order a b", "order")
        self.check(LETTERS + "order a b\norder b c\n", "order a b", "order")
        self.check(LETTERS + "order a b\norder b c\n", "order c c", "order")
        # What only follows from others was not told.
        self.check(LETTERS + "order a b\norder b c\n", "order a c", None)

    def test_circle(self):
        self.check(LETTERS + "order a b\n", "order b a", "circle")
        self.check(LETTERS + "order a b\norder b c\n", "order c a", "circle")
        self.check(LETTERS + "order c d\norder a b\norder d e\norder b c\n", "order e a", "circle")
        self.check(LETTERS + "order e d\norder d c\norder c b\n", "order b e", "circle")
        self.check(LETTERS + "order a b\norder a c\norder b d\norder c d\n", "order d a", "circle")
        self.check(LETTERS + "order a b\norder c b\n", "order a c", None)
        self.check(LETTERS + "order a b\norder a c\n", "order c b", None)

    def test_none(self):
        self.assertEqual(fault(""), ("none", 1))
        self.assertEqual(fault("place hut inside"), ("none", 1))
        self.assertEqual(fault("place hut inside\n"), ("none", 2))
        self.assertEqual(fault("place hut inside\nactor ann\nmove 5\n\n# scene s hut day 5 :"), ("none", 5))

    def test_first_line_that_has_an_error(self):
        self.assertEqual(fault("# remark\n\nplace hut inside\nfoo\nplace hut inside"), ("form", 3))
        self.assertEqual(fault("place hut inside\nplace hut inside\nfoo"), ("twice", 1))
        self.assertEqual(fault("move 999\nfoo\nmove 1"), ("number", 0))
        self.assertEqual(fault("\n\n\n" + HEAD + "order s s\nmove 999"), ("order", 3 + NEXT))

    def test_form_comes_first(self):
        self.check(HEAD, "scene s bay dusk 4 : cid", "form")
        self.check(HEAD, "place hut nowhere", "form")
        self.check(HEAD, "actor all", "form")
        self.check(HEAD + "move 5\n", "move 5 5", "form")
        self.check(PLACES, "place P8 inside", "form")
        self.check(SCENES, "scene meal hut any 5 :", "form")
        self.check(ACTORS, "actor minors", "form")

    def test_twice_comes_ahead_of_many(self):
        self.check(PLACES, "place p3 outside", "twice")
        self.check(ACTORS, "actor a7", "twice")
        self.check(SCENES, "scene s11 hut any 5 :", "twice")

    def test_twice_comes_ahead_of_number_and_unknown(self):
        self.check(HEAD, "scene s hut day 4 :", "twice")
        self.check(HEAD, "scene s bay day 60 : cid", "twice")
        self.check(HEAD + "move 5\n", "move 999", "twice")

    def test_many_comes_ahead_of_number_and_unknown(self):
        self.check(SCENES, "scene s12 hut any 4 :", "many")
        self.check(SCENES, "scene s12 bay any 5 :", "many")
        self.check(SCENES, "scene s12 hut any 5 : ann", "many")

    def test_number_comes_ahead_of_unknown_and_cast(self):
        self.check(HEAD, "scene t bay day 601 :", "number")
        self.check(HEAD, "scene t hut day 4 : cid", "number")
        self.check(HEAD, "scene t hut day 4 : ann ann", "number")

    def test_unknown_comes_ahead_of_cast_and_order(self):
        self.check(HEAD, "scene t bay day 60 : ann ann", "unknown")
        self.check(HEAD, "scene t hut day 60 : ann ann cid", "unknown")
        self.check(HEAD, "scene t hut day 60 : cid cid", "unknown")
        self.check(HEAD, "order t t", "unknown")


if __name__ == "__main__":
    unittest.main()
