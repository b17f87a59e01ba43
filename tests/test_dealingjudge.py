"""Points 802 and 803: judges of dealings and answer books."""

import itertools
import unittest

from small_cases import PAIR_TEXT, small_case

from callsheets.calendars import parse_calendar
from callsheets.dealingjudge import takes_answers, takes_dealing
from callsheets.dealings import best, need, too_little
from callsheets.films import parse_film
from callsheets.stands import first_stand, is_through, natures, step

FILM = parse_film(PAIR_TEXT + "order a b")
NOTHING, ONE, BOTH = (600, (), ()), (600, (0,), (0,)), (600, (0, 1), (0,))
FEES = ((100, ()), (10, ((60, 1),)))
CALENDAR = parse_calendar(FILM, "day 400 1000\n" * 3)
CASE = (FILM, CALENDAR, (), ((BOTH, ONE), (NOTHING, BOTH), (BOTH,)), (1, 0, 0, 20), FEES)
ILL = (FILM, CALENDAR, (), ((BOTH, NOTHING), (BOTH,), (BOTH,)), (0, 2, 0, 20), FEES)
FRESH = ((-1, 0), (-1, 0))
FIRST = (0, (), FRESH, (0, 0, 0))
SECOND = (1, (0,), ((660, 1), (-1, 0)), (1, 0, 0))
DRY, RAIN = ("dry", -1, 0), ("rain", -1, 0)
DONE = (2, (0, 1), FRESH, (0, 0, 0))
OTHERS = (None, 0, 1, -1, True, "", "dry", (0,), [], {}, {0: 1}, ((),), (None,), ("",), (0, 0), ([],), 1.5, b"", FIRST)


def carries(case, reserve, dealing):
    """Return what point 802 tells of a tuple of triples of the right forms."""
    amounts = {stand: amount for stand, _, amount in dealing}
    if len(amounts) < len(dealing) or list(dealing) != sorted(dealing):
        return False
    first = first_stand(case)
    if not is_through(case, first) and (first not in amounts or amounts[first] > reserve):
        return False
    for stand, number, amount in dealing:
        if is_through(case, stand) or stand[0] == len(case[3]):
            return False
        for nature in natures(case, stand):
            told = step(case, stand, number, nature)
            if told[0] == "break":
                return False
            if is_through(case, told[1]):
                if told[2] > amount:
                    return False
            elif told[1] not in amounts or told[2] + amounts[told[1]] > amount:
                return False
    return True


def answers_all(case, reserve, answers):
    """Return what point 803 tells of a tuple of triples of the right forms."""
    amounts = {stand: amount for stand, amount, _ in answers}
    stands = [stand for stand, _, _ in answers]
    if len(amounts) < len(answers) or stands != sorted(stands) or first_stand(case) not in amounts:
        return False
    amount = amounts[first_stand(case)]
    if amount is not None and (reserve is None or amount <= reserve):
        return False
    for stand, amount, triples in answers:
        if is_through(case, stand) or stand[0] == len(case[3]):
            return False
        for number, nature in enumerate(triples):
            told = step(case, stand, number, nature)
            if told[0] == "break" or told[1] in amounts and amounts[told[1]] is None:
                continue
            if amount is None or told[2] + amounts.get(told[1], 0) < amount:
                return False
    return True


def put(row, at, part):
    return (*row[:at], part, *row[at + 1:])


def changed_rows(rows):
    """Return rows with one left out, doubled, or exchanged with the next one."""
    told = []
    for at in range(len(rows)):
        told.append(rows[:at] + rows[at + 1:])
        told.append(rows[:at + 1] + rows[at:])
        if at + 1 < len(rows):
            told.append(rows[:at] + (rows[at + 1], rows[at]) + rows[at + 2:])
    return told


def other_stands(case, stand):
    """Return stands of the right form that differ from one in a single part."""
    day, shot, befores, used = stand
    told = [(other, shot, befores, used) for other in (day - 1, day + 1) if 0 <= other <= len(case[3])]
    told += [(day, other, befores, used) for other in ((), (0,), (0, 1)) if other != shot]
    told += [(day, shot, put(befores, 0, before), used) for before in ((-1, 0), (700, 1)) if before != befores[0]]
    told += [(day, shot, befores, put(used, 0, rains)) for rains in (0, 1) if rains != used[0]]
    # Who worked yesterday was there on some day before.
    return [row for row in told if all(row[0] >= before[1] for before in row[2])]


class DealingTest(unittest.TestCase):
    def test_what_best_tells(self):
        kept = 0
        for number in range(300):
            case, _ = small_case(number)
            told = best(case)
            if told[0] == "keeps":
                kept += 1
                _, amount, dealing = told
                self.assertIs(takes_dealing(case, amount, dealing), True, number)
                self.assertIs(takes_dealing(case, amount + 1, dealing), True, number)
                self.assertIs(takes_dealing(case, amount - 1, dealing), False, number)
                self.assertIs(takes_dealing(case, 0, dealing), amount == 0, number)
        self.assertGreater(kept, 80)

    def test_a_dealing(self):
        told = ((FIRST, 0, 112), (SECOND, 1, 12))
        self.assertIs(takes_dealing(CASE, 112, told), True)
        self.assertIs(takes_dealing(CASE, 111, told), False)
        self.assertIs(takes_dealing(CASE, 112, told[1:]), False)
        self.assertIs(takes_dealing(CASE, 112, ()), False)

    def test_each_single_change(self):
        dealing = ((FIRST, 0, 112), (SECOND, 1, 12))
        kept = []
        for at, (stand, number, amount) in enumerate(dealing):
            rows = [(stand, other, amount) for other in (0, 1) if other != number]
            rows += [(stand, number, other) for other in (0, 11, 12, 13, 111, 112, 113, 200) if other != amount]
            rows += [(other, number, amount) for other in other_stands(CASE, stand)]
            for row in rows:
                told = put(dealing, at, row)
                wanted = row[1] < len(CASE[3][row[0][0]] if row[0][0] < 3 else ()) and carries(CASE, 112, told)
                self.assertIs(takes_dealing(CASE, 112, told), wanted, told)
                kept += [row] if wanted else []
        # The greater amounts of the second stand are more than is left of that of the first one.
        self.assertEqual(kept, [])
        for told in changed_rows(dealing):
            self.assertIs(takes_dealing(CASE, 112, told), False, told)
            self.assertIs(takes_dealing(CASE, 10 ** 6, told), False, told)

    def test_single_changes_in_small_cases(self):
        taken = [0, 0]
        for case, amount, dealing in self.kept_cases(range(200)):
            rows = [(at, (stand, number, other)) for at, (stand, number, paid) in enumerate(dealing)
                    for other in (paid - 1, paid + 1, 0) if other >= 0 and other != paid]
            rows += [(at, (stand, other, paid)) for at, (stand, number, paid) in enumerate(dealing)
                     for other in range(len(case[3][stand[0]])) if other != number]
            for reserve, (at, row) in itertools.product((amount, amount + 1), rows):
                told = put(dealing, at, row)
                wanted = carries(case, reserve, told)
                taken[wanted] += 1
                self.assertIs(takes_dealing(case, reserve, told), wanted, told)
            for told in changed_rows(dealing):
                self.assertIs(takes_dealing(case, amount, told), False, told)
        self.assertGreater(min(taken), 80)

    def kept_cases(self, numbers):
        told = [(small_case(number)[0], best(small_case(number)[0])) for number in numbers]
        return [(case, row[1], row[2]) for case, row in told if row[0] == "keeps"]

    def test_more_stands_than_are_needed(self):
        dealing = ((FIRST, 0, 112), (SECOND, 1, 12))
        more = (2, (0,), FRESH, (1, 0, 0))
        self.assertIs(takes_dealing(CASE, 112, (*dealing, (more, 0, 12))), True)
        self.assertIs(takes_dealing(CASE, 112, (*dealing, (more, 0, 11))), False)
        # From there rain would break the end.
        more = (2, (0,), FRESH, (0, 0, 0))
        self.assertIs(takes_dealing(CASE, 112, (*dealing, (more, 0, 99999))), False)
        # Behind the last day, and through.
        self.assertIs(takes_dealing(CASE, 112, (*dealing, ((3, (0,), FRESH, (1, 0, 0)), 0, 12))), False)
        self.assertIs(takes_dealing(CASE, 112, (*dealing, ((2, (0, 1), FRESH, (1, 0, 0)), 0, 12))), False)

    def test_no_less_than_the_need(self):
        for case, amount, dealing in self.kept_cases(range(100)):
            for stand, _, paid in dealing:
                self.assertEqual(paid, need(case, stand))
                at = [row[0] for row in dealing].index(stand)
                if paid > 0:
                    told = put(dealing, at, (stand, dealing[at][1], paid - 1))
                    self.assertIs(takes_dealing(case, amount, told), False)

    def test_a_first_stand_that_is_through(self):
        case = (FILM[:2] + ((), ()) + FILM[4:], *CASE[1:3], ((NOTHING,),) * 3, *CASE[4:])
        self.assertIs(takes_dealing(case, 0, ()), True)
        self.assertIs(takes_dealing(case, 5, ()), True)
        self.assertIs(takes_dealing(case, 5, ((FIRST, 0, 0),)), False)
        self.assertIs(takes_answers(case, 5, ()), False)
        self.assertIs(takes_answers(case, None, ((FIRST, None, (DRY,)),)), False)

    def test_other_forms(self):
        dealing = ((FIRST, 0, 112), (SECOND, 1, 12))
        for other in OTHERS:
            self.assertIs(takes_dealing(CASE, 112, other), False, other)
        self.assertIs(takes_dealing(CASE, 112, list(dealing)), False)
        self.assertIs(takes_dealing(CASE, 112, {row: True for row in dealing}), False)
        for at, row in enumerate(dealing):
            others = [list(row), row[:2], (*row, 0), *OTHERS]
            others += [put(row, 0, other) for other in (*OTHERS[:-1], list(row[0]), row[0][:3], (-1, *row[0][1:]), (4, *row[0][1:]))]
            others += [put(row, 1, other) for other in (None, "0", -1, 2, 6, False, True, 1.0, (0,))]
            others += [put(row, 2, other) for other in (None, "12", -1, 12.0, 112.0, True, False, (12,), [])]
            for other in others:
                self.assertIs(takes_dealing(CASE, 112, put(dealing, at, other)), False, other)
                self.assertIs(takes_dealing(CASE, 10 ** 6, (*dealing, other)), False, other)


class AnswersTest(unittest.TestCase):
    def test_what_too_little_tells(self):
        told = [0, 0]
        for number in range(300):
            case, _ = small_case(number)
            amount = need(case, first_stand(case))
            if amount is None:
                answers = best(case)[1]
                told[0] += 1
                for reserve in (None, 0, 50, 10 ** 9):
                    self.assertIs(takes_answers(case, reserve, answers), True, number)
            elif amount > 0:
                answers = too_little(case, amount - 1)
                told[1] += 1
                for reserve in (0, amount - 1):
                    self.assertIs(takes_answers(case, reserve, answers), True, number)
                for reserve in (amount, amount + 1, None):
                    self.assertIs(takes_answers(case, reserve, answers), False, number)
        self.assertGreater(min(told), 80)

    def test_an_answer_book(self):
        told = ((FIRST, 112, (DRY, DRY)), ((1, (0,), ((660, 1), (-1, 0)), (0, 0, 0)), 12, (DRY, DRY)),
                ((2, (0,), FRESH, (0, 0, 0)), None, (RAIN,)))
        case = (*CASE[:3], (CASE[3][0], (BOTH, BOTH), (BOTH,)), *CASE[4:])
        self.assertIs(takes_answers(case, 111, told[:2]), True)
        self.assertIs(takes_answers(case, 111, told), True)
        self.assertIs(takes_answers(case, 112, told), False)
        self.assertIs(takes_answers(case, None, told), False)
        # With amounts that are not told, the second stand leads to what is none of the book.
        self.assertIs(takes_answers(case, 111, told[:1]), False)

    def test_the_reserve_none(self):
        told = best(ILL)
        self.assertEqual(told[0], "never")
        self.assertIs(takes_answers(ILL, None, told[1]), True)
        for at, (stand, _, triples) in enumerate(told[1]):
            other = put(told[1], at, (stand, 10 ** 6, triples))
            self.assertIs(takes_answers(ILL, None, other), False)

    def test_amounts_none(self):
        last = (2, (0,), FRESH, (0, 0, 0))
        # Where the amount is None, the step must break, or lead to one with None.
        self.assertIs(takes_answers(CASE, None, ((FIRST, None, (DRY, DRY)),)), False)
        self.assertIs(takes_answers(CASE, 0, ((FIRST, None, (DRY, DRY)),)), False)
        self.assertIs(takes_answers(CASE, 0, ((FIRST, 1, (DRY, DRY)), (last, None, (RAIN,)))), True)
        self.assertIs(takes_answers(CASE, 0, ((FIRST, 1, (DRY, DRY)), (last, None, (DRY,)))), False)
        self.assertIs(takes_answers(CASE, 0, ((FIRST, 1, (DRY, DRY)), (last, 5, (RAIN,)))), True)

    def test_each_single_change(self):
        books = []
        for number in range(120):
            case, _ = small_case(number)
            amount = need(case, first_stand(case))
            if amount is None:
                books.append((case, None, best(case)[1]))
            elif amount > 0:
                books.append((case, amount - 1, too_little(case, amount - 1)))
        taken = [0, 0]
        for case, reserve, answers in books:
            for told in self.changed(case, answers):
                for asked in {reserve, 7}:
                    wanted = answers_all(case, asked, told)
                    taken[wanted] += 1
                    self.assertIs(takes_answers(case, asked, told), wanted, told)
            for told in changed_rows(answers):
                wanted = answers_all(case, reserve, told)
                self.assertIs(takes_answers(case, reserve, told), wanted, told)
        self.assertGreater(min(taken), 200)

    def changed(self, case, answers):
        for at, (stand, amount, triples) in enumerate(answers):
            for other in (None, 0, 1, 30) if amount is None else (None, amount - 1, amount + 1, 0):
                if other != amount and (other is None or other >= 0):
                    yield put(answers, at, (stand, other, triples))
            for place, nature in itertools.product(range(len(triples)), natures(case, stand)):
                if nature != triples[place]:
                    yield put(answers, at, (stand, amount, put(triples, place, nature)))

    def test_rows_left_out_doubled_or_exchanged(self):
        answers = best(ILL)[1]
        self.assertGreater(len(answers), 1)
        for told in changed_rows(answers):
            self.assertIs(takes_answers(ILL, None, told), False, told)
        book = too_little(CASE, 111)
        self.assertIs(takes_answers(CASE, 111, book), True)
        self.assertIs(takes_answers(CASE, 111, book + book[:1]), False)
        self.assertIs(takes_answers(CASE, 111, book[:1] + book), False)

    def test_other_stands(self):
        book = too_little(CASE, 111)
        for at, (stand, amount, triples) in enumerate(book):
            for other in other_stands(CASE, stand):
                told = put(book, at, (other, amount, triples))
                fits = other[0] < 3 and len(triples) == len(CASE[3][other[0]])
                fits = fits and all(triple in natures(CASE, other) for triple in triples)
                wanted = fits and answers_all(CASE, 111, told)
                self.assertIs(takes_answers(CASE, 111, told), wanted, told)
        for stand in ((3, (0,), FRESH, (1, 0, 0)), (3, (), FRESH, (0, 0, 0)), DONE):
            for triples in ((), (DRY,), (DRY, DRY)):
                self.assertIs(takes_answers(CASE, 111, (*book, (stand, 0, triples))), False)
                self.assertIs(takes_answers(CASE, 111, (*book, (stand, None, triples))), False)

    def test_other_forms(self):
        book = too_little(CASE, 111)
        for other in OTHERS:
            self.assertIs(takes_answers(CASE, 111, other), False, other)
            self.assertIs(takes_answers(CASE, None, other), False, other)
        self.assertIs(takes_answers(CASE, 111, list(book)), False)
        for at, row in enumerate(book):
            others = [list(row), row[:2], (*row, 0), *OTHERS]
            others += [put(row, 0, other) for other in (*OTHERS[:-1], list(row[0]), row[0][:3], (-1, *row[0][1:]), (4, *row[0][1:]))]
            others += [put(row, 1, other) for other in ("12", -1, 12.0, True, False, (12,), [], "None")]
            triples = [list(row[2]), row[2][1:], (*row[2], DRY), None, 0, "", (), ((),) * len(row[2]), (None,) * len(row[2])]
            triples += [put(row[2], 0, other) for other in (
                ["dry", -1, 0], ("dry", -1), ("snow", -1, 0), ("dry", -1, 20), ("dry", 0, 0), ("dry", -2, 0), ("dry", -1, False),
                ("dry", None, 0), ("dry", -1, 7), (DRY,), "dry",
            )]
            others += [put(row, 2, other) for other in triples]
            for other in others:
                self.assertIs(takes_answers(CASE, 111, put(book, at, other)), False, other)

    def test_what_nature_used_already(self):
        rained = (2, (0,), FRESH, (1, 0, 0))
        book = too_little(CASE, 111)
        self.assertIs(takes_answers(CASE, 111, (*book, (rained, 12, (DRY,)))), True)
        self.assertIs(takes_answers(CASE, 111, (*book, (rained, 13, (DRY,)))), False)
        self.assertIs(takes_answers(CASE, 111, (*book, (rained, 0, (DRY,)))), True)
        self.assertIs(takes_answers(CASE, 111, (*book, (rained, -1, (DRY,)))), False)
        self.assertIs(takes_answers(CASE, 111, (*book, (rained, 12, (RAIN,)))), False)

    def test_arguments_stay_as_they_were(self):
        book, dealing = too_little(CASE, 111), [[FIRST, 0, 112], [0]]
        kept = repr((CASE, book, dealing))
        takes_answers(CASE, 111, book)
        takes_answers(CASE, 111, dealing)
        takes_dealing(CASE, 111, dealing)
        takes_dealing(CASE, 111, book)
        self.assertEqual(repr((CASE, book, dealing)), kept)


if __name__ == "__main__":
    unittest.main()
