"""Point 1004: denials that a mend keeps a day book."""

import random
import unittest

from plain_courses import breaks_of
from small_cases import small_case

from callsheets.booktext import parse_book
from callsheets.calendars import parse_calendar
from callsheets.daybooks import explore
from callsheets.errors import CallError, MendError
from callsheets.films import parse_film
from callsheets.mends import denial, least_mend, takes_denial
from callsheets.stands import first_stand, is_through, step

FILM = parse_film("place p inside\nactor ann\nscene a p any 60 : ann\nscene b p any 60 dry :")
ONE, BOTH, NOTHING = (600, (0,), (0,)), (600, (0, 1), (0,)), (600, (), ())
CASE = (FILM, parse_calendar(FILM, "day 400 1000\n" * 3), (), ((ONE, BOTH, NOTHING), (BOTH, NOTHING), (NOTHING, BOTH)),
        (1, 0, 0, 20), ((10, ()),))
DRY, RAIN = ("dry", -1, 0), ("rain", -1, 0)


def is_true(test, stand):
    """Return whether a test is true at a stand; those of the small cases have these words only."""
    if test[0] == "not":
        return not is_true(test[1], stand)
    if test[0] in ("and", "or"):
        both = (is_true(test[1], stand), is_true(test[2], stand))
        return all(both) if test[0] == "and" else any(both)
    if test[0] == "shot":
        return test[1] in stand[1]
    if test[0] == "worked":
        return stand[2][test[1]] != (-1, 0)
    used, number = stand[3][test[1]], test[3]
    return {"<": used < number, ">": used > number, "=": used == number}[test[2]]


def telling(book, stand):
    """Return the number of the first line that tells a sheet, and this number, or None twice."""
    for line, (day, test, number) in enumerate(book):
        if day == stand[0] and (test is None or is_true(test, stand)):
            return line, number
    return None, None


def plain_at_hand(case, book, fixed, triples):
    """Return the changes at hand, or None if the day book does not come to a break just there."""
    stand, found = first_stand(case), []
    for count, triple in enumerate([*triples, None]):
        line, number = telling(book, stand)
        if is_through(case, stand):
            return None
        sheets = range(len(case[3][stand[0]]))
        if line is None:
            found += [("more", stand[0], other) for other in sheets if len(book) < 60]
            return sorted(found) if triple is None else None
        found += [("sheet", line, other) for other in sheets if other != number and line not in fixed]
        if triple is None:
            return None
        told = step(case, stand, number, triple)
        if told[0] == "break":
            return sorted(found) if count == len(triples) - 1 else None
        stand = told[1]
    return None


def changed(book, change):
    word, place, number = change
    if word == "more":
        return (*book, (place, None, number)), len(book)
    return (*book[:place], (*book[place][:2], number), *book[place + 1:]), place


def is_denial(case, book, fixed, count, told):
    """Return what point 1004 tells of denials."""
    triples, what, branches = told
    if (triples, what) not in breaks_of(case, book):
        return False
    wanted = plain_at_hand(case, book, fixed, triples) if count else []
    if [change for change, _ in branches] != wanted:
        return False
    for change, inner in branches:
        new, line = changed(book, change)
        if not is_denial(case, new, fixed + [line], count - 1, inner):
            return False
    return True


def any_denial(case, book, fixed, count, source):
    """Return a denial with breaks that are chosen anyhow."""
    triples, what = source.choice(breaks_of(case, book))
    branches = []
    for change in plain_at_hand(case, book, fixed, triples) if count else []:
        new, line = changed(book, change)
        branches.append((change, any_denial(case, new, fixed + [line], count - 1, source)))
    return triples, what, tuple(branches)


def denied_cases(numbers):
    """Return the cases and day books with the greatest number for which there is a denial."""
    told = []
    for number in numbers:
        case, book = small_case(number)
        counts = [count for count in (0, 1, 2) if least_mend(case, book, count) is None]
        if counts:
            told.append((case, book, max(counts)))
    return told


class DenialTest(unittest.TestCase):
    def test_what_is_told(self):
        book = parse_book(CASE, "day 0 : 0")
        self.assertEqual(denial(CASE, book, 0), ((DRY,), ("none", 1), ()))
        told = denial(CASE, book, 1)
        self.assertEqual(told[:2], ((DRY,), ("none", 1)))
        self.assertEqual([change for change, _ in told[2]], [
            ("more", 1, 0), ("more", 1, 1), ("sheet", 0, 1), ("sheet", 0, 2),
        ])
        # With the line for the second day the rain of this day leads to a day without a line.
        self.assertEqual(told[2][0][1], ((DRY, RAIN), ("none", 2), ()))
        self.assertEqual(told[2][2][1], ((RAIN,), ("none", 1), ()))

    def test_errors(self):
        book = parse_book(CASE, "day 0 : 0")
        for most in (-1, 3):
            for other in (book, parse_book(CASE, "day 0 : 1\nday 1 : 0")):
                with self.assertRaises(MendError) as caught:
                    denial(CASE, other, most)
                self.assertEqual(caught.exception.code, "most")
                self.assertIsInstance(caught.exception, CallError)
        for text, most in (("day 0 : 1\nday 1 : 0", 0), ("day 0 : 1", 1), ("", 2), ("day 0 : 0", 2)):
            with self.assertRaises(MendError) as caught:
                denial(CASE, parse_book(CASE, text), most)
            self.assertEqual(caught.exception.code, "mends")

    def test_small_cases(self):
        counts = []
        for number in range(250):
            case, book = small_case(number)
            for most in (0, 1, 2):
                if least_mend(case, book, most) is None:
                    told = denial(case, book, most)
                    self.assertIs(takes_denial(case, book, most, told), True, number)
                    self.assertTrue(is_denial(case, book, [], most, told), number)
                    counts.append(most)
                else:
                    with self.assertRaises(MendError) as caught:
                        denial(case, book, most)
                    self.assertEqual(caught.exception.code, "mends")
        self.assertGreater(min(counts.count(most) for most in (0, 1, 2)), 80)

    def test_triples_of_explore_everywhere(self):
        for case, book, most in denied_cases(range(60)):
            self.check_triples(case, book, denial(case, book, most))

    def check_triples(self, case, book, told):
        self.assertEqual(explore(case, book), ("breaks", *told[:2]))
        for change, inner in told[2]:
            self.check_triples(case, changed(book, change)[0], inner)

    def test_changed_and_new_lines_are_not_changed_again(self):
        told = denial((*CASE[:4], (3, 0, 0, 20), CASE[5]), parse_book(CASE, "day 0 : 0"), 2)
        for change, inner in told[2]:
            changes = [other for other, _ in inner[2]]
            self.assertTrue(changes)
            if change[0] == "sheet":
                self.assertNotIn(0, [line for word, line, _ in changes if word == "sheet"])
            else:
                self.assertNotIn(1, [line for word, line, _ in changes if word == "sheet"])
                self.assertIn(("sheet", 0, 1), changes)

    def test_no_room_for_a_line(self):
        book = ((0, None, 1),) * 60
        told = denial(CASE, book, 2)
        self.assertEqual(told, ((RAIN,), ("none", 1), (
            (("sheet", 0, 0), ((DRY,), ("none", 1), ())), (("sheet", 0, 2), ((DRY,), ("none", 1), ())),
        )))
        self.assertIs(takes_denial(CASE, book, 2, told), True)
        self.assertIs(takes_denial(CASE, book[1:], 2, told), False)
        inner = ((DRY,), ("none", 1), ())
        more = told[:2] + ((("more", 1, 0), inner), (("more", 1, 1), inner)) + told[2]
        self.assertIs(takes_denial(CASE, book, 2, (*told[:2], more[2:])), False)

    def test_arguments_stay_as_they_were(self):
        for case, book, most in denied_cases(range(20)):
            told = denial(case, book, most)
            kept = repr((case, book, told))
            takes_denial(case, book, most, told)
            self.assertEqual(repr((case, book, told)), kept)


class TakesDenialTest(unittest.TestCase):
    def test_any_other_breaks(self):
        source = random.Random(3)
        others = 0
        for case, book, most in denied_cases(range(80)):
            for count in range(most + 1):
                told = any_denial(case, book, [], count, source)
                others += told != denial(case, book, count)
                self.assertIs(takes_denial(case, book, count, told), True)
        self.assertGreater(others, 40)

    def test_branches_left_out_exchanged_or_doubled(self):
        seen = 0
        for case, book, most in denied_cases(range(200)):
            triples, what, branches = denial(case, book, most)
            for at in range(len(branches)):
                seen += 1
                told = [branches[:at] + branches[at + 1:], branches[:at + 1] + branches[at:]]
                if at + 1 < len(branches):
                    told.append(branches[:at] + (branches[at + 1], branches[at]) + branches[at + 2:])
                for other in told:
                    self.assertIs(takes_denial(case, book, most, (triples, what, other)), False)
                inner = branches[at][1]
                if inner[2]:
                    bad = (branches[at][0], (*inner[:2], inner[2][1:]))
                    other = branches[:at] + (bad,) + branches[at + 1:]
                    self.assertIs(takes_denial(case, book, most, (triples, what, other)), False)
        self.assertGreater(seen, 150)

    def test_other_triples_and_other_breaks(self):
        seen = [0, 0]
        for case, book, most in denied_cases(range(60)):
            triples, what, branches = denial(case, book, most)
            known = breaks_of(case, book)
            others = [(row, what) for row, _ in known] + [(triples, other) for _, other in known]
            others += [(triples + (DRY,), what), (triples[:-1], what), ((), what), (triples, ("none", 1)), (triples, ("end", 0))]
            for pair in others:
                told = (*pair, branches)
                wanted = is_denial(case, book, [], most, told)
                seen[wanted] += 1
                self.assertIs(takes_denial(case, book, most, told), wanted)
        self.assertGreater(min(seen), 40)

    def test_branches_exchanged_with_one_another(self):
        seen = [0, 0]
        for case, book, most in denied_cases(range(200)):
            triples, what, branches = denial(case, book, most)
            for at in range(len(branches) - 1):
                (one, first), (other, second) = branches[at:at + 2]
                told = (triples, what, branches[:at] + ((one, second), (other, first)) + branches[at + 2:])
                wanted = is_denial(case, book, [], most, told)
                seen[wanted] += 1
                self.assertIs(takes_denial(case, book, most, told), wanted)
        self.assertGreater(min(seen), 15)

    def test_another_number(self):
        seen = [0, 0]
        for case, book, most in denied_cases(range(100)):
            for count in range(most + 1):
                told = denial(case, book, count)
                for other in range(4):
                    wanted = is_denial(case, book, [], other, told)
                    seen[wanted] += other != count
                    self.assertIs(takes_denial(case, book, other, told), wanted)
        self.assertGreater(min(seen), 10)

    def test_another_change(self):
        book = parse_book(CASE, "day 0 : 0")
        triples, what, branches = denial(CASE, book, 1)
        for at, (change, inner) in enumerate(branches):
            for other in (("more", 1, 2), ("sheet", 0, 0), ("more", 2, 0), ("sheet", 1, 0), ("other", 0, 1)):
                told = branches[:at] + ((other, inner),) + branches[at + 1:]
                self.assertIs(takes_denial(CASE, book, 1, (triples, what, told)), False)
            told = branches[:at] + ((change, branches[at - 1][1]),) + branches[at + 1:]
            wanted = is_denial(CASE, book, [], 1, (triples, what, told))
            self.assertIs(takes_denial(CASE, book, 1, (triples, what, told)), wanted)

    def test_a_day_book_that_closes(self):
        book = parse_book(CASE, "day 0 : 1\nday 1 : 0")
        for told in (((), ("none", 0), ()), ((DRY,), ("none", 1), ()), ((RAIN, DRY), ("none", 2), ())):
            self.assertIs(takes_denial(CASE, book, 0, told), False)


if __name__ == "__main__":
    unittest.main()
