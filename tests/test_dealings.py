"""Points 801 and 804: needs, best dealings, and nature's answers."""

import time
import unittest

from small_cases import small_case

from callsheets import dealings
from callsheets.calendars import parse_calendar
from callsheets.dealings import best, need, too_little
from callsheets.errors import CallError, CaseError, LargeError
from callsheets.films import parse_film
from callsheets.stands import first_stand, is_through, natures, step

FILM = parse_film("""\
ready 60
place p inside
actor ann
actor ben
scene a p any 60 : ann
scene b p any 60 dry : ben
order a b
""")
CALENDAR = parse_calendar(FILM, "day 400 1000\n" * 3)
NOTHING, ONE, BOTH, SECOND = (600, (), ()), (600, (0,), (0,)), (600, (0, 1), (0,)), (600, (1,), ())
FEES = ((100, ()), (10, ((60, 1),)))
FIRST = (0, (), ((-1, 0), (-1, 0)), (0, 0, 0))
FRESH = ((-1, 0), (-1, 0))
DRY, RAIN = ("dry", -1, 0), ("rain", -1, 0)


def case_of(menu, *bounds):
    return (FILM, CALENDAR, (), menu, (*bounds, 20), FEES)


def plain_need(case, stand):
    """Return the need of a stand, by all courses from it."""
    if is_through(case, stand):
        return 0
    if stand[0] == len(case[3]):
        return None
    needs = [plain_need_of_sheet(case, stand, number) for number in range(len(case[3][stand[0]]))]
    return min((told for told in needs if told is not None), default=None)


def plain_need_of_sheet(case, stand, number):
    greatest = -1
    for nature in natures(case, stand):
        told = step(case, stand, number, nature)
        behind = None if told[0] == "break" else plain_need(case, told[1])
        if behind is None:
            return None
        greatest = max(greatest, told[2] + behind)
    return greatest


def plain_answer(case, stand, number, wanted):
    """Return the first triple by which a sheet needs at least what is wanted, None for everything."""
    for nature in natures(case, stand):
        told = step(case, stand, number, nature)
        behind = None if told[0] == "break" else plain_need(case, told[1])
        if behind is None or wanted is not None and told[2] + behind >= wanted:
            return nature
    return None


def plain_dealing(case):
    told, waiting = {}, [first_stand(case)]
    while waiting:
        stand = waiting.pop()
        if stand not in told and not is_through(case, stand):
            amount = plain_need(case, stand)
            numbers = range(len(case[3][stand[0]]))
            number = [k for k in numbers if plain_need_of_sheet(case, stand, k) == amount][0]
            told[stand] = (stand, number, amount)
            waiting += [step(case, stand, number, nature)[1] for nature in natures(case, stand)]
    return tuple(sorted(told.values()))


def plain_answers(case):
    told, waiting = {}, [first_stand(case)]
    while waiting:
        stand = waiting.pop()
        if stand not in told and not is_through(case, stand):
            amount = plain_need(case, stand)
            numbers = range(len(case[3][stand[0]]))
            triples = tuple(plain_answer(case, stand, number, amount) for number in numbers)
            told[stand] = (stand, amount, triples)
            ends = [step(case, stand, number, triples[number]) for number in numbers]
            waiting += [end[1] for end in ends if end[0] == "stand"]
    return tuple(told[stand] for stand in sorted(told))


def carries(case, reserve, dealing):
    """Return whether a dealing carries a reserve, as point 802 tells it."""
    amounts = {stand: amount for stand, _, amount in dealing}
    good = len(amounts) == len(dealing) and list(dealing) == sorted(dealing)
    good = good and amounts.get(first_stand(case), reserve + 1) <= reserve
    for stand, number, amount in dealing:
        for nature in natures(case, stand):
            told = step(case, stand, number, nature)
            if told[0] == "break" or not is_through(case, told[1]) and told[1] not in amounts:
                return False
            good = good and told[2] + amounts.get(told[1], 0) <= amount
    return good


def answers_reserve(case, reserve, answers):
    """Return whether an answer book answers a reserve, as point 803 tells it."""
    amounts = {stand: amount for stand, amount, _ in answers}
    good = list(amounts) == sorted(amounts) and len(amounts) == len(answers)
    good = good and first_stand(case) in amounts
    first = amounts.get(first_stand(case))
    good = good and (first is None or reserve is not None and first > reserve)
    for stand, amount, triples in answers:
        good = good and not is_through(case, stand) and len(triples) == len(case[3][stand[0]])
        for number, nature in enumerate(triples):
            good = good and nature in natures(case, stand)
            told = step(case, stand, number, nature)
            if told[0] == "break" or told[1] in amounts and amounts[told[1]] is None:
                continue
            good = good and amount is not None and told[2] + amounts.get(told[1], 0) >= amount
    return good


class NeedTest(unittest.TestCase):
    def test_through(self):
        case = case_of(((NOTHING,),) * 3, 1, 0, 0)
        self.assertEqual(need(case, (1, (0, 1), FRESH, (0, 0, 0))), 0)
        self.assertEqual(need(case, (3, (0, 1), FRESH, (1, 0, 0))), 0)

    def test_a_need(self):
        case = case_of(((BOTH,), (BOTH,), (BOTH,)), 1, 0, 0)
        # On a dry day both are there: 100 for ann and 10 for ben, whose span of 120 begins 2 half hours.
        self.assertEqual(need(case, FIRST), 112)
        self.assertEqual(need(case, (1, (0,), FRESH, (1, 0, 0))), 12)
        self.assertEqual(need(case, (1, (0,), FRESH, (0, 0, 0))), 12)
        self.assertEqual(need(case, (2, (0,), FRESH, (1, 0, 0))), 12)

    def test_none(self):
        case = case_of(((BOTH,), (BOTH,), (BOTH,)), 1, 0, 0)
        self.assertIsNone(need(case, (2, (0,), FRESH, (0, 0, 0))))
        self.assertIsNone(need(case, (2, (), FRESH, (0, 0, 0))))
        self.assertIsNone(need(case_of(((NOTHING,),) * 3, 0, 0, 0), FIRST))
        self.assertIsNone(need(case_of(((SECOND,),) * 3, 0, 0, 0), FIRST))

    def test_behind_the_last_day(self):
        case = case_of(((BOTH,), (BOTH,), (BOTH,)), 1, 0, 0)
        self.assertIsNone(need(case, (3, (0,), FRESH, (0, 0, 0))))

    def test_the_best_sheet_and_the_worst_triple(self):
        long = (600, (0, -1, 1), ())
        case = case_of(((long, BOTH), (NOTHING, SECOND), (BOTH,)), 0, 0, 1)
        self.assertEqual(need(case, FIRST), plain_need(case, FIRST))
        self.assertEqual(need(case, FIRST), 112)
        # The sheet for one scene costs less at once, and more behind it.
        case = case_of(((BOTH, ONE), (SECOND,), (BOTH,)), 0, 0, 0)
        self.assertEqual(need(case, FIRST), 112)

    def test_small_cases_against_all_courses(self):
        kinds = set()
        for number in range(300):
            case, _ = small_case(number)
            told = need(case, first_stand(case))
            self.assertEqual(told, plain_need(case, first_stand(case)), number)
            kinds.add(told)
        self.assertIn(None, kinds)
        self.assertGreater(len(kinds), 20)

    def test_from_other_stands(self):
        for number in range(60):
            case, _ = small_case(number)
            waiting = [first_stand(case)]
            while waiting:
                stand = waiting.pop()
                self.assertEqual(need(case, stand), plain_need(case, stand))
                if not is_through(case, stand):
                    ends = [step(case, stand, 0, nature) for nature in natures(case, stand)[:2]]
                    waiting += [end[1] for end in ends if end[0] == "stand"]


class BestTest(unittest.TestCase):
    def test_keeps(self):
        case = case_of(((BOTH,), (BOTH,), (BOTH,)), 1, 0, 0)
        self.assertEqual(best(case), ("keeps", 112, (
            (FIRST, 0, 112), ((1, (0,), ((660, 1), (-1, 0)), (1, 0, 0)), 0, 12),
        )))

    def test_the_least_sheet(self):
        case = case_of(((SECOND, NOTHING, BOTH, BOTH), (NOTHING, BOTH, BOTH), (BOTH, BOTH)), 0, 0, 0)
        self.assertEqual(best(case), ("keeps", 112, (
            (FIRST, 1, 112), ((1, (), FRESH, (0, 0, 0)), 0, 112), ((2, (), FRESH, (0, 0, 0)), 0, 112),
        )))

    def test_never(self):
        case = case_of(((BOTH, NOTHING), (BOTH,), (BOTH,)), 0, 2, 0)
        told = best(case)
        self.assertEqual(told[0], "never")
        # The first triple for each sheet: to rain nobody comes, the first to be ill is ann.
        self.assertEqual(told[1][0], (FIRST, None, (("dry", 0, 0), DRY)))
        self.assertEqual(told, ("never", plain_answers(case)))

    def test_never_by_a_step_that_breaks(self):
        case = case_of(((SECOND, SECOND), (BOTH,), (BOTH,)), 1, 0, 0)
        self.assertIsNotNone(need(case, (1, (), FRESH, (1, 0, 0))))
        self.assertEqual(best(case), ("never", ((FIRST, None, (DRY, DRY)),)))

    def test_small_cases(self):
        words = []
        for number in range(300):
            case, _ = small_case(number)
            told = best(case)
            words.append(told[0])
            amount = plain_need(case, first_stand(case))
            if amount is None:
                self.assertEqual(told, ("never", plain_answers(case)), number)
                for reserve in (None, 0, 99999):
                    self.assertTrue(answers_reserve(case, reserve, told[1]))
            else:
                self.assertEqual(told, ("keeps", amount, plain_dealing(case)), number)
                self.assertTrue(carries(case, amount, told[2]))
                self.assertFalse(carries(case, amount - 1, told[2]))
        self.assertGreater(min(words.count("keeps"), words.count("never")), 80)


class TooLittleTest(unittest.TestCase):
    def test_below_the_need(self):
        case = case_of(((BOTH, ONE), (BOTH,), (BOTH,)), 1, 0, 0)
        told = too_little(case, 111)
        # With ann alone on the first day, the second one may have rain, or be dry: ben costs the same.
        self.assertEqual(told, plain_answers(case))
        self.assertEqual(told[0], (FIRST, 112, (DRY, DRY)))
        self.assertTrue(answers_reserve(case, 111, told))
        self.assertEqual(too_little(case, 0), told)

    def test_enough(self):
        case = case_of(((BOTH,), (BOTH,), (BOTH,)), 1, 0, 0)
        for reserve in (112, 113, 99999999):
            with self.assertRaises(CaseError) as caught:
                too_little(case, reserve)
            self.assertEqual(caught.exception.code, "enough")
            self.assertIsInstance(caught.exception, CallError)

    def test_a_need_of_0(self):
        case = case_of(((BOTH,), (BOTH,), (BOTH,)), 1, 0, 0)[:5] + (((0, ()), (0, ())),)
        self.assertEqual(best(case)[:2], ("keeps", 0))
        with self.assertRaises(CaseError):
            too_little(case, 0)

    def test_without_a_need_each_reserve_is_too_little(self):
        case = case_of(((BOTH, NOTHING), (BOTH,), (BOTH,)), 0, 2, 0)
        for reserve in (0, 112, 10 ** 9):
            self.assertEqual(too_little(case, reserve), best(case)[1])

    def test_small_cases(self):
        mixed = 0
        for number in range(300):
            case, _ = small_case(number)
            amount = plain_need(case, first_stand(case))
            for reserve in (0, 1, 20, 40, 10 ** 6) if amount is None else {0, amount // 2, amount - 1, amount, amount + 1}:
                if reserve < 0:
                    continue
                if amount is not None and reserve >= amount:
                    with self.assertRaises(CaseError):
                        too_little(case, reserve)
                else:
                    told = too_little(case, reserve)
                    self.assertEqual(told, plain_answers(case), number)
                    self.assertTrue(answers_reserve(case, reserve, told))
                    mixed += amount is not None and None in [row[1] for row in told]
        self.assertGreater(mixed, 20)


class LimitTest(unittest.TestCase):
    """What nature used alone tells the stands apart, whatever the sheets of the days are."""

    def case(self, counts):
        film = parse_film("place p inside\nactor a\nscene s p any 60 :")
        menu = tuple(((600, (), ()),) * count for count in counts[:-1]) + (((600, (0,), (0,)),) * counts[-1],)
        return (film, parse_calendar(film, "day 400 1000\n" * 6), (), menu, (2, 3, 3, 20), ((1, ()),))

    def test_the_constant(self):
        self.assertEqual(dealings.STEP_LIMIT, 5000)

    def steps_of(self, case, first):
        steps, seen, waiting = 0, set(), [first]
        while waiting:
            stand = waiting.pop()
            if stand in seen or is_through(case, stand):
                continue
            seen.add(stand)
            for nature in natures(case, stand):
                steps += len(case[3][stand[0]])
                waiting.append(step(case, stand, 0, nature)[1])
        return steps

    def test_at_the_limit(self):
        case = self.case((5, 5, 4, 4, 6, 6))
        first = first_stand(case)
        self.assertEqual(self.steps_of(case, first), 5000)
        begun = time.monotonic()
        self.assertEqual(need(case, first), 0)
        told = best(case)
        self.assertEqual(told[:2], ("keeps", 0))
        self.assertEqual({row[1:] for row in told[2]}, {(0, 0)})
        with self.assertRaises(CaseError):
            too_little(case, 0)
        self.assertLess(time.monotonic() - begun, 30)

    def test_above_the_limit(self):
        case = self.case((5, 4, 3, 5, 6, 6))
        first = first_stand(case)
        self.assertEqual(self.steps_of(case, first), 5001)
        for call in (lambda: need(case, first), lambda: best(case), lambda: too_little(case, 0)):
            with self.assertRaises(LargeError) as caught:
                call()
            self.assertEqual(caught.exception.code, "large")
            self.assertIsInstance(caught.exception, CallError)

    def test_only_what_is_reached_counts(self):
        case = self.case((6, 6, 6, 6, 6, 6))
        for stand in ((1, (), ((-1, 0),), (1, 1, 1)), (3, (), ((-1, 0),), (0, 0, 0)), (5, (0,), ((-1, 0),), (0, 0, 0))):
            self.assertEqual(need(case, stand), 0)
        with self.assertRaises(LargeError):
            need(case, first_stand(case))

    def test_arguments_stay_as_they_were(self):
        for number in range(30):
            case, _ = small_case(number)
            kept = repr(case)
            best(case)
            need(case, first_stand(case))
            if plain_need(case, first_stand(case)) is None:
                too_little(case, 5)
            self.assertEqual(repr(case), kept)


if __name__ == "__main__":
    unittest.main()
