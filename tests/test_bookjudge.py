"""Point 704: judges of what is told of a day book."""

import itertools
import random
import unittest

from small_cases import small_case

from callsheets.bookjudge import takes_natures, takes_stands
from callsheets.booktext import parse_book
from callsheets.calendars import parse_calendar
from callsheets.daybooks import choice, explore
from callsheets.films import parse_film
from callsheets.stands import first_stand, is_through, natures, step

FILM = parse_film("""\
ready 60
place p inside
actor ann
actor ben
scene a p any 60 : ann
scene b p any 60 dry : ben
order a b
""")
SHEETS = ((600, (0,), (0,)), (600, (), ()), (600, (0, 1), (0,)))
CASE = (FILM, parse_calendar(FILM, "day 400 1000\n" * 3), (), (SHEETS, SHEETS, SHEETS), (1, 1, 1, 20), ((0, ()),) * 2)
CALM = CASE[:4] + ((1, 0, 0, 20), CASE[5])
BOOK = parse_book(CASE, "day 0 : 0\nday 1 : 2\nday 2 : 2")
FIRST = (0, (), ((-1, 0), (-1, 0)), (0, 0, 0))
FRESH = ((-1, 0), (-1, 0))
DRY, RAIN = ("dry", -1, 0), ("rain", -1, 0)
# What is neither a stand, nor a triple, nor a thing that breaks.
OTHERS = (None, 0, 1, -1, True, "", "dry", (), (()), ((),), [], {}, (0,), (0, (), FRESH), [0, (), FRESH, (0, 0, 0)],
          (0, (), FRESH, (0, 0, 0), 0), (None,) * 4, ("0", (), FRESH, (0, 0, 0)), (0, 1, 2, 3), (0.0, (), FRESH, (0, 0, 0)))


def stands_of(case, book):
    told = explore(case, book)
    assert told[0] == "closes", told
    return told[1]


class StandsTest(unittest.TestCase):
    def setUp(self):
        self.stands = stands_of(CALM, BOOK)

    def test_what_explore_tells(self):
        self.assertIs(takes_stands(CALM, BOOK, self.stands), True)
        closed = 0
        for number in range(300):
            case, book = small_case(number)
            told = explore(case, book)
            if told[0] == "closes":
                closed += 1
                self.assertIs(takes_stands(case, book, told[1]), True)
        self.assertGreater(closed, 50)

    def test_in_any_order_and_twice(self):
        self.assertIs(takes_stands(CALM, BOOK, self.stands[::-1]), True)
        self.assertIs(takes_stands(CALM, BOOK, self.stands * 2), True)

    def test_one_left_out(self):
        for at in range(len(self.stands)):
            self.assertIs(takes_stands(CALM, BOOK, self.stands[:at] + self.stands[at + 1:]), False, at)
        self.assertIs(takes_stands(CALM, BOOK, ()), False)

    def test_one_put_in_from_which_the_book_goes_on(self):
        # From these stands the steps lead to stands that are told, or they are through.
        for stand in ((3, (0, 1), FRESH, (0, 0, 0)), (0, (0, 1), FRESH, (1, 0, 0)), (2, (0, 1), ((9, 2), (99999, 1)), (0, 0, 0))):
            self.assertIs(takes_stands(CALM, BOOK, (*self.stands, stand)), True, stand)

    def test_one_put_in_at_which_it_breaks(self):
        for stand in (
            (3, (), FRESH, (0, 0, 0)), (3, (0,), FRESH, (1, 0, 0)), (2, (), FRESH, (0, 0, 0)), (2, (0,), FRESH, (0, 0, 0)),
        ):
            self.assertIs(takes_stands(CALM, BOOK, (*self.stands, stand)), False, stand)

    def test_one_put_in_whose_steps_lead_elsewhere(self):
        # Other days in a row of ben, and so another stand behind it.
        stand = (1, (0,), ((-1, 0), (700, 1)), (1, 0, 0))
        self.assertIs(takes_stands(CALM, BOOK, (*self.stands, stand)), False)
        behind = step(CALM, stand, 2, DRY)[1]
        self.assertIs(takes_stands(CALM, BOOK, (*self.stands, stand, behind)), True)

    def test_no_sheet_at_a_stand(self):
        book = BOOK[:1] + BOOK[2:]
        self.assertIs(takes_stands(CALM, book, self.stands), False)
        self.assertIs(takes_stands(CALM, book, self.stands[:1]), False)

    def test_the_first_stand_must_be_among_them(self):
        self.assertIs(takes_stands(CALM, BOOK, ((1, (0, 1), FRESH, (0, 0, 0)),)), False)

    def test_changed_numbers(self):
        for stand in self.stands:
            day, shot, befores, used = stand
            for other in (
                (day + 1, shot, befores, used), (day - 1, shot, befores, used), (day, shot[1:], befores, used),
                (day, shot, befores[::-1], used), (day, shot, befores, (1 - used[0], 0, 0)),
                (day, shot, ((700, day), befores[1]), used),
            ):
                if other != stand:
                    told = tuple(other if row == stand else row for row in self.stands)
                    self.assertIs(takes_stands(CALM, BOOK, told), False, other)

    def test_day_books_that_break_have_no_such_stands(self):
        for number in range(120):
            case, book = small_case(number)
            if explore(case, book)[0] == "breaks":
                reached, waiting = {first_stand(case)}, [first_stand(case)]
                while waiting:
                    stand = waiting.pop()
                    if is_through(case, stand) or choice(book, stand) is None:
                        continue
                    for nature in natures(case, stand):
                        told = step(case, stand, choice(book, stand), nature)
                        if told[0] == "stand" and told[1] not in reached:
                            reached.add(told[1])
                            waiting.append(told[1])
                self.assertIs(takes_stands(case, book, tuple(reached)), False)

    def test_forms_of_stands(self):
        # Each of these is through, so that nothing but its form matters.
        done = (0, 1)
        good = (2, done, ((0, 1), (99999, 2)), (1, 0, 0))
        self.assertIs(takes_stands(CALM, BOOK, (*self.stands, good)), True)
        used = (0, 0, 0)
        for bad in OTHERS + (
            (-1, done, FRESH, used), (4, done, FRESH, used), (True, done, FRESH, used), ("2", done, FRESH, used),
            (None, done, FRESH, used), (2.0, done, FRESH, used), (2, (1, 0), FRESH, used), (2, (0, 0, 1), FRESH, used),
            (2, (0, 1, 2), FRESH, used), (2, (-1, 0, 1), FRESH, used), (2, [0, 1], FRESH, used), (2, (0, True), FRESH, used),
            (2, (False, 1), FRESH, used), (2, ("0", "1"), FRESH, used), (2, None, FRESH, used), (2, 1, FRESH, used),
            (2, ((0,), 1), FRESH, used), (2, done, FRESH[:1], used), (2, done, FRESH + FRESH[:1], used), (2, done, (), used),
            (2, done, list(FRESH), used), (2, done, ([-1, 0], (-1, 0)), used), (2, done, ((-1,), (-1, 0)), used),
            (2, done, ((-1, 0, 0), (-1, 0)), used), (2, done, (None, (-1, 0)), used), (2, done, 7, used),
            (2, done, ((-1, 1), (-1, 0)), used), (2, done, ((0, 0), (-1, 0)), used), (2, done, ((-2, 1), (-1, 0)), used),
            (2, done, ((100000, 1), (-1, 0)), used), (2, done, ((700, 3), (-1, 0)), used), (2, done, ((700, 0), FRESH[0]), used),
            (2, done, ((700, -1), FRESH[0]), used), (0, done, ((700, 1), FRESH[0]), used), (2, done, ((True, 1), FRESH[0]), used),
            (2, done, ((700, True), FRESH[0]), used), (2, done, ((-1, False), FRESH[0]), used),
            (2, done, (("700", 1), FRESH[0]), used), (2, done, ((700, None), FRESH[0]), used),
            (2, done, FRESH, (2, 0, 0)), (2, done, FRESH, (0, 1, 0)), (2, done, FRESH, (0, 0, 1)), (2, done, FRESH, (-1, 0, 0)),
            (2, done, FRESH, (0, 0)), (2, done, FRESH, (0, 0, 0, 0)), (2, done, FRESH, [0, 0, 0]), (2, done, FRESH, None),
            (2, done, FRESH, (True, 0, 0)), (2, done, FRESH, (0, 0, "0")), (2, done, FRESH, (0, 0, 0, 20)),
            (2, (1,), FRESH, used), (2, (0, 2), FRESH, used), (2, (-1, 0), FRESH, used), (2, (-1, 1), FRESH, used),
            (2, done, ((-1, -1), FRESH[0]), used), (2, done, ((-2, 0), FRESH[0]), used), (2, done, ((-2, -1), FRESH[0]), used),
        ):
            self.assertIs(takes_stands(CALM, BOOK, (*self.stands, bad)), False, bad)
            self.assertIs(takes_stands(CALM, BOOK, (bad, *self.stands)), False, bad)
            self.assertIs(takes_stands(CALM, BOOK, (bad,)), False, bad)

    def test_a_set_that_is_not_closed(self):
        behind = (2, (0, 1), ((660, 1), (-1, 0)), (1, 0, 0))
        self.assertIs(takes_stands(CALM, BOOK, (*self.stands, behind)), True)
        stand = (1, (1,), FRESH, (1, 0, 0))
        self.assertEqual(step(CALM, stand, 2, DRY)[1], behind)
        self.assertIs(takes_stands(CALM, BOOK, (*self.stands, behind, stand)), False)

    def test_without_actors(self):
        film = parse_film("place p inside\nscene a p any 60 :")
        case = (film, parse_calendar(film, "day 400 1000"), (), (((600, (0,), (0,)),),), (0, 0, 0, 20), ())
        stands = ((0, (), (), (0, 0, 0)), (1, (0,), (), (0, 0, 0)))
        self.assertEqual(explore(case, ((0, None, 0),)), ("closes", stands))
        self.assertIs(takes_stands(case, ((0, None, 0),), stands), True)
        self.assertIs(takes_stands(case, ((0, None, 0),), stands + ((1, (0,), FRESH, (0, 0, 0)),)), False)

    def test_what_is_told_is_a_tuple(self):
        self.assertIs(takes_stands(CALM, BOOK, list(self.stands)), False)
        self.assertIs(takes_stands(CALM, BOOK, dict.fromkeys(self.stands)), False)
        for other in OTHERS:
            self.assertIs(takes_stands(CALM, BOOK, other), False, other)


class NaturesTest(unittest.TestCase):
    def broken_cases(self, numbers):
        """Return the cases and day books with what explore tells of those that break."""
        told = [(small_case(number), explore(*small_case(number))) for number in numbers]
        return [(case, book, *end[1:]) for (case, book), end in told if end[0] == "breaks"]

    def test_what_explore_tells(self):
        cases = self.broken_cases(range(300))
        self.assertGreater(len(cases), 100)
        for case, book, triples, what in cases:
            self.assertIs(takes_natures(case, book, triples, what), True)

    def test_a_step_that_breaks(self):
        book = parse_book(CASE, "day 0 : 1\nday 1 : 1\nday 2 : 2")
        self.assertIs(takes_natures(CALM, book, (DRY, DRY, RAIN), ("end", 1)), True)
        self.assertIs(takes_natures(CALM, book, (RAIN, DRY, DRY), ("end", 1)), False)
        self.assertIs(takes_natures(CALM, book, (DRY, DRY, DRY), ("end", 1)), False)
        self.assertIs(takes_natures(CALM, book, (DRY, RAIN), ("end", 1)), False)
        self.assertIs(takes_natures(CALM, book, (DRY, DRY, RAIN), ("end", 0)), False)
        self.assertIs(takes_natures(CALM, book, (DRY, DRY, RAIN), ("wet", 1)), False)

    def test_a_course_that_is_not_the_shortest_one(self):
        book = parse_book(CASE, "day 0 : 1\nday 1 : 1")
        self.assertEqual(explore(CASE, book), ("breaks", (DRY, DRY), ("none", 2)))
        for triples in itertools.product((DRY, ("dry", 0, 0), ("dry", -1, 20)), repeat=2):
            wanted = triples[0] == DRY or triples[0] != triples[1]
            self.assertIs(takes_natures(CASE, book, triples, ("none", 2)), wanted, triples)

    def test_a_stand_without_a_sheet(self):
        self.assertIs(takes_natures(CALM, (), (), ("none", 0)), True)
        self.assertIs(takes_natures(CALM, (), (), ("none", 1)), False)
        self.assertIs(takes_natures(CALM, (), (DRY,), ("none", 0)), False)
        self.assertIs(takes_natures(CALM, (), (DRY,), ("none", 1)), False)
        book = BOOK[:1]
        self.assertIs(takes_natures(CALM, book, (DRY,), ("none", 1)), True)
        self.assertIs(takes_natures(CALM, book, (RAIN,), ("none", 1)), True)
        self.assertIs(takes_natures(CALM, book, (), ("none", 1)), False)
        self.assertIs(takes_natures(CALM, book, (), ("none", 0)), False)
        self.assertIs(takes_natures(CALM, book, (DRY, DRY), ("none", 1)), False)
        self.assertIs(takes_natures(CALM, book, (DRY, DRY), ("none", 2)), False)

    def test_nothing_is_behind_a_stand_that_is_through(self):
        book = parse_book(CASE, "day 0 : 2")
        self.assertIs(takes_natures(CALM, book, (DRY,), ("none", 1)), False)
        self.assertIs(takes_natures(CALM, book, (DRY, DRY), ("none", 2)), False)
        self.assertIs(takes_natures(CALM, book, (RAIN,), ("none", 1)), True)
        # The lines of the second day would break there, if the first course were not through.
        book = parse_book(CASE, "day 0 : 2\nday 1 : 1\nday 2 : 1")
        self.assertIs(takes_natures(CALM, book, (DRY, DRY, DRY), ("end", 0)), False)
        self.assertIs(takes_natures(CALM, book, (RAIN, DRY, DRY), ("end", 1)), True)

    def test_a_break_before_the_end(self):
        book = parse_book(CASE, "day 0 : 1\nday 1 if rains > 0 : 0\nday 2 : 0")
        self.assertIs(takes_natures(CALM, book, (DRY,), ("none", 1)), True)
        self.assertIs(takes_natures(CALM, book, (DRY, DRY), ("none", 1)), False)
        film = FILM[:2] + (FILM[2][:1] + (("b", 0, "any", 60, True, ()),), ((0, 1),)) + FILM[4:]
        case = (film,) + CALM[1:3] + ((((600, (1,), ()),),) * 3,) + CALM[4:]
        book = ((0, None, 0), (1, None, 0), (2, None, 0))
        self.assertIs(takes_natures(case, book, (DRY,), ("order", 1)), True)
        self.assertIs(takes_natures(case, book, (DRY, DRY), ("order", 1)), False)
        self.assertIs(takes_natures(case, book, (RAIN, DRY), ("order", 1)), True)
        self.assertIs(takes_natures(case, book, (RAIN,), ("order", 1)), False)

    def test_all_other_triples_against_a_plain_search(self):
        source = random.Random(5)
        for case, book, triples, what in self.broken_cases(range(80)):
            choices = [(w, ill, late) for w in ("dry", "rain") for ill in (-1, 0, 1) for late in (0, 30)]
            for _ in range(40):
                told = tuple(source.choice(choices) for _ in range(source.choice((len(triples), 1, 2, 3))))
                self.assertIs(takes_natures(case, book, told, what), plainly_takes(case, book, told, what))

    def test_one_thing_changed(self):
        for case, book, triples, what in self.broken_cases(range(100)):
            for other in (
                (what[0],), what + (0,), what[:-1] + (what[-1] + 1,), what[:-1] + (what[-1] - 1,), list(what), None,
                ("none",) + what[1:] if what[0] != "none" else ("end",) + what[1:],
            ):
                self.assertIs(takes_natures(case, book, triples, other), False, other)
            self.assertIs(takes_natures(case, book, (*triples, DRY), what), False)
            if triples:
                self.assertIs(takes_natures(case, book, triples[:-1], what), False)
                for bad in (("snow", -1, 0), ("dry", -2, 0), ("dry", 2, 0), ("dry", -1, 7), ("rain", 9, 30)):
                    for at in range(len(triples)):
                        told = triples[:at] + (bad,) + triples[at + 1:]
                        self.assertIs(takes_natures(case, book, told, what), False)

    def test_nature_used_all(self):
        book = parse_book(CASE, "day 0 : 1\nday 1 : 1\nday 2 : 1")
        rows = (("rain", 0, 20), DRY, DRY)
        self.assertIs(takes_natures(CASE, book, rows, ("end", 0)), True)
        for at, more in itertools.product((1, 2), (RAIN, ("dry", 1, 0), ("dry", -1, 20))):
            self.assertIs(takes_natures(CASE, book, rows[:at] + (more,) + rows[at + 1:], ("end", 0)), False)

    def test_forms_of_triples(self):
        book = BOOK[:1]
        for bad in OTHERS + (
            ("dry", -1), ("dry", -1, 0, 0), ["dry", -1, 0], ("dry", -1, False), ("dry", False, 0), ("dry", None, 0),
            ("dry", -1, None), (None, -1, 0), (0, -1, 0), ("dry", "-1", 0), ("dry", -1.0, 0), ("dry", -1, 0.0), (("dry",), -1, 0),
        ):
            self.assertIs(takes_natures(CASE, book, (bad,), ("none", 1)), False, bad)
            self.assertIs(takes_natures(CASE, BOOK[:2], (DRY, bad), ("none", 2)), False, bad)
            self.assertIs(takes_natures(CASE, BOOK[:2], (bad, DRY), ("none", 2)), False, bad)

    def test_what_is_told_is_a_tuple(self):
        book = BOOK[:1]
        self.assertIs(takes_natures(CALM, book, [DRY], ("none", 1)), False)
        for other in (None, 0, True, "", "dry", [], {}, {DRY: 1}, DRY):
            self.assertIs(takes_natures(CALM, book, other, ("none", 1)), False, other)
            self.assertIs(takes_natures(CALM, (), other, ("none", 0)), False, other)

    def test_forms_of_what_breaks(self):
        book = BOOK[:1]
        for bad in OTHERS + (
            "none", ("none",), ("none", 1, 0), ["none", 1], ("none", True), ("none", 1.0), ("none", "1"), ("none", None),
            ("none", (1,)), (1, "none"), ("None", 1), ("end", 1),
        ):
            self.assertIs(takes_natures(CALM, book, (DRY,), bad), False, bad)
        book = parse_book(CASE, "day 0 : 1\nday 1 : 1\nday 2 : 1")
        for bad in (("end", False), ("end", 0.0), ["end", 0], ("end", 0, 0), ("end",)):
            self.assertIs(takes_natures(CALM, book, (DRY,) * 3, bad), False, bad)

    def test_arguments_stay_as_they_were(self):
        for case, book, triples, what in self.broken_cases(range(10)):
            told = ([[0]], [triples])
            kept = repr((case, book, triples, what, told))
            takes_natures(case, book, triples, what)
            takes_natures(case, book, told, told)
            takes_stands(case, book, told)
            self.assertEqual(repr((case, book, triples, what, told)), kept)


def plainly_takes(case, book, triples, what):
    """Return what point 704 tells, for triples of the right form."""
    stand = first_stand(case)
    for count, triple in enumerate(triples):
        if is_through(case, stand) or choice(book, stand) is None or triple not in natures(case, stand):
            return False
        told = step(case, stand, choice(book, stand), triple)
        if told[0] == "break":
            return count == len(triples) - 1 and told[1] == what
        stand = told[1]
    return not is_through(case, stand) and choice(book, stand) is None and what == ("none", stand[0])


if __name__ == "__main__":
    unittest.main()
