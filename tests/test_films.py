"""Points 101, 102 and 104: films and their texts."""

import unittest

from callsheets.films import parse_film, print_film

EXAMPLE = "place hut inside\nactor ann\nscene s1 hut day 90 : ann\nscene s2 hut any 60 :\norder s1 s2"
EXAMPLE_FILM = (
    (("hut", False),),
    (("ann", False),),
    (("s1", 0, "day", 90, False, (0,)), ("s2", 0, "any", 60, False, ())),
    ((0, 1),),
    (30, 60, 30),
)

LONG_TEXT = """\
# every form of line, and lines in an order of their own
move 0

place bay outside
  actor   ben   minor   # a child
actor ann
scene storm bay night 600 dry : ben ann
place hut inside   # behind a scene
   # a remark only
scene talk hut day 5 : ann
actor cid
scene end bay any 45 dry :
order end storm
meal 120
scene mid hut any 90 : cid ben ann
order talk storm
order mid end
ready 240
order talk end
"""
LONG_FILM = (
    (("bay", True), ("hut", False)),
    (("ben", True), ("ann", False), ("cid", False)),
    (
        ("storm", 0, "night", 600, True, (0, 1)),
        ("talk", 1, "day", 5, False, (1,)),
        ("end", 0, "any", 45, True, ()),
        ("mid", 1, "any", 90, False, (0, 1, 2)),
    ),
    ((1, 0), (1, 2), (2, 0), (3, 2)),
    (0, 240, 120),
)

LARGEST = "\n".join(
    ["place p{} outside".format(k) for k in range(8)]
    + ["actor a{} minor".format(k) for k in range(8)]
    + ["scene s{} p7 night 600 dry : a7 a6 a5 a4 a3 a2 a1 a0".format(k) for k in range(12)]
    + ["order s{} s{}".format(j, k) for j in range(12) for k in range(12) if j > k]
)


class ParseFilmTest(unittest.TestCase):
    def test_example_of_the_interface(self):
        # repr tells True and False from numbers, and tuples from lists.
        self.assertEqual(repr(parse_film(EXAMPLE)), repr(EXAMPLE_FILM))

    def test_every_form_of_line(self):
        self.assertEqual(repr(parse_film(LONG_TEXT)), repr(LONG_FILM))

    def test_last_newline_does_not_matter(self):
        self.assertEqual(parse_film(EXAMPLE + "\n"), EXAMPLE_FILM)
        self.assertEqual(parse_film(LONG_TEXT[:-1]), LONG_FILM)
        self.assertEqual(parse_film("\n\n" + EXAMPLE + "\n\n\n"), EXAMPLE_FILM)

    def test_minutes_that_are_not_told(self):
        film = "place p inside\nscene s p any 5 :\n"
        self.assertEqual(parse_film(film)[4], (30, 60, 30))
        self.assertEqual(parse_film(film + "move 7")[4], (7, 60, 30))
        self.assertEqual(parse_film(film + "ready 7")[4], (30, 7, 30))
        self.assertEqual(parse_film(film + "meal 7")[4], (30, 60, 7))
        self.assertEqual(parse_film("meal 9\nready 8\n" + film + "move 7")[4], (7, 8, 9))

    def test_minutes_at_their_edges(self):
        film = "place p inside\nscene s p any 5 :\nscene t p any 600 :\n"
        self.assertEqual(parse_film(film + "move 0\nready 0\nmeal 5")[4], (0, 0, 5))
        self.assertEqual(parse_film(film + "move 240\nready 240\nmeal 120")[4], (240, 240, 120))
        self.assertEqual([scene[3] for scene in parse_film(film)[2]], [5, 600])

    def test_casts_in_any_order_are_ascending(self):
        head = "place p inside\nactor a\nactor b\nactor c\nscene s p any 5 : "
        for cast in ("a b c", "c b a", "b c a", "c a b"):
            self.assertEqual(parse_film(head + cast)[2][0][5], (0, 1, 2))
        self.assertEqual(parse_film(head + "c a")[2][0][5], (0, 2))

    def test_orders_are_ascending(self):
        head = "place p inside\nscene a p any 5 :\nscene b p any 5 :\nscene c p any 5 :\n"
        self.assertEqual(parse_film(head + "order b c\norder a c\norder a b")[3], ((0, 1), (0, 2), (1, 2)))
        self.assertEqual(parse_film(head + "order c b\norder b a")[3], ((1, 0), (2, 1)))

    def test_words_of_the_forms_may_be_names(self):
        text = (
            "place all inside\nplace meal outside\nplace inside inside\nactor meal\nactor dry\nactor minor minor\n"
            "scene all all day 5 : dry\nscene minors meal night 5 dry : minor dry\nscene scene inside any 5 dry :\n"
            "order all minors"
        )
        film = parse_film(text)
        self.assertEqual(film[0], (("all", False), ("meal", True), ("inside", False)))
        self.assertEqual(film[1], (("meal", False), ("dry", False), ("minor", True)))
        self.assertEqual(film[2], (
            ("all", 0, "day", 5, False, (1,)),
            ("minors", 1, "night", 5, True, (1, 2)),
            ("scene", 2, "any", 5, True, ()),
        ))
        self.assertEqual(parse_film(print_film(film)), film)

    def test_same_name_for_things_of_several_kinds(self):
        film = parse_film("place a inside\nactor a\nscene a a any 5 : a\nscene b a any 5 :\norder b a")
        self.assertEqual(film[2][0], ("a", 0, "any", 5, False, (0,)))
        self.assertEqual(film[3], ((1, 0),))

    def test_largest_film(self):
        film = parse_film(LARGEST)
        self.assertEqual([len(rows) for rows in film], [8, 8, 12, 66, 3])
        self.assertEqual(film[2][11], ("s11", 7, "night", 600, True, (0, 1, 2, 3, 4, 5, 6, 7)))

    def test_text_of_6000_characters(self):
        self.assertEqual(parse_film(EXAMPLE + "#" * (6000 - len(EXAMPLE))), EXAMPLE_FILM)
        self.assertEqual(parse_film("\n" * (6000 - len(EXAMPLE)) + EXAMPLE), EXAMPLE_FILM)


class PrintFilmTest(unittest.TestCase):
    def test_text_of_the_example(self):
        self.assertEqual(print_film(EXAMPLE_FILM), (
            "move 30\nready 60\nmeal 30\nplace hut inside\nactor ann\n"
            "scene s1 hut day 90 : ann\nscene s2 hut any 60 :\norder s1 s2\n"
        ))

    def test_places_then_actors_then_scenes_then_orders(self):
        lines = print_film(LONG_FILM).split("\n")
        self.assertEqual(lines[:9], [
            "move 0", "ready 240", "meal 120", "place bay outside", "place hut inside",
            "actor ben minor", "actor ann", "actor cid", "scene storm bay night 600 dry : ben ann",
        ])
        self.assertEqual(lines[9:11], ["scene talk hut day 5 : ann", "scene end bay any 45 dry :"])
        self.assertEqual(lines[12:], ["order talk storm", "order talk end", "order end storm", "order mid end", ""])

    def test_text_read_again_gives_the_film_back(self):
        for text in (EXAMPLE, LONG_TEXT, LARGEST):
            film = parse_film(text)
            self.assertEqual(repr(parse_film(print_film(film))), repr(film))

    def test_one_space_between_words_and_none_elsewhere(self):
        for film in (EXAMPLE_FILM, LONG_FILM):
            text = print_film(film)
            self.assertTrue(text.endswith("\n"))
            for line in text[:-1].split("\n"):
                self.assertEqual(line, " ".join(line.split()))
                self.assertNotEqual(line, "")

    def test_film_without_actors_and_orders(self):
        film = parse_film("place p outside\nscene s p night 5 dry :")
        self.assertEqual(
            print_film(film), "move 30\nready 60\nmeal 30\nplace p outside\nscene s p night 5 dry :\n"
        )
        self.assertEqual(parse_film(print_film(film)), film)


if __name__ == "__main__":
    unittest.main()
