"""Points 1 to 4 over the whole program, its interface, and that its parts agree with one another."""

import importlib
import inspect
import itertools
import unittest
from pathlib import Path

from plain_courses import all_courses, closing_cases
from small_cases import small_case

from callsheets.bookjudge import takes_natures, takes_stands
from callsheets.courses import run
from callsheets.cutting import cut_day, cut_days, late_course, most_rolls, rolls_of
from callsheets.dealingjudge import takes_answers, takes_dealing
from callsheets.dealings import best, need, too_little
from callsheets.daybooks import choice, explore, reserve
from callsheets.errors import CallError, StockError
from callsheets.house import House
from callsheets.journal import journal, replay
from callsheets.mends import denial, least_mend, mended, takes_denial, touched
from callsheets.news import with_news
from callsheets.notices import board, held, notice, takes_board
from callsheets.stands import first_stand, is_through, natures, step
from callsheets.words import lines_of

PACKAGE = Path(__file__).resolve().parent.parent / "callsheets"
INTERFACE = {
    "words": "is_name(text) is_number(text) lines_of(text)",
    "films": "parse_film(text) print_film(film)",
    "orders": "ahead(film, scene) behind(film, scene) is_closed(film, shot) free_scenes(film, shot) layers(film) needless(film)",
    "arrangements": "count_arrangements(film) count_closed(film) arrangement_at(film, number) number_of(film, arrangement)",
    "calendars": "parse_calendar(film, text) print_calendar(film, calendar)",
    "windows": "is_there(calendar, actor, day) is_open(calendar, place, day) days_of(film, calendar, scene) "
               "earliest_days(film, calendar)",
    "ruletext": "parse_rules(film, text) print_rules(film, rules) print_condition(condition)",
    "rules": "holds(condition, figures) broken(film, rules, actor, figures)",
    "reasons": "forces(condition, figures, atoms) reason(condition, figures)",
    "sheets": "check_sheet(film, sheet)",
    "hours": "hours(film, sheet, shot, news)",
    "days": "figures_of(film, calendar, day, rows, actor, before) "
            "breaks(film, calendar, rules, day, sheet, shot, befores, news)",
    "cases": "check_case(case)",
    "stands": "first_stand(case) is_through(case, stand) natures(case, stand) step(case, stand, number, nature)",
    "courses": "run(case, course)",
    "booktext": "parse_book(case, text) print_book(case, book)",
    "daybooks": "choice(book, stand) explore(case, book) reserve(case, book)",
    "bookjudge": "takes_stands(case, book, stands) takes_natures(case, book, natures, what)",
    "dealings": "need(case, stand) best(case) too_little(case, reserve)",
    "dealingjudge": "takes_dealing(case, reserve, dealing) takes_answers(case, reserve, answers)",
    "money": "check_fees(film, fees) day_cost(fee, span) cost_of(film, calendar, fees, day, rows)",
    "news": "with_news(case, news)",
    "mends": "mended(case, book, mend) least_mend(case, book, most) denial(case, book, most) "
             "takes_denial(case, book, most, denial) touched(case, book, mend) first_loss(case, book, news)",
    "notices": "notice(case, book, stand, actor) board(case, book) takes_board(case, book, told) held(case, book, actor) "
               "warning(case, book, actor) latest_word(case, book, actor)",
    "rolls": "in_order(takes, roll) fewest_rolls(takes, roll) takes_rolls(takes, roll, rolls) short_ends(takes, roll, rolls)",
    "continuity": "check_things(film, story, things) clashes(film, story, things) again(film, story, things) "
                  "mends(film, story, things, scenes) pledge(film, story, things, minutes) "
                  "takes_pledge(film, story, things, minutes, tree)",
    "cutting": "back_days(case, course, lab) cut_day(case, course, sequence, lab) cut_days(case, book, sequence, lab) "
               "is_ahead(case, book, one, other) late_course(case, book, one, other) rolls_of(case, course, roll) "
               "most_rolls(case, book, roll)",
    "menus": "parse_menu(film, calendar, text) print_menu(film, menu) parse_fees(film, text) print_fees(film, fees)",
    "journal": "check_number(text) journal(house) replay(case, book, text)",
}
METHODS = {
    ("house", "House"): "__init__(self, case, book) tonight(self) put(self, number) shoot(self, nature) state(self) back(self) "
                        "days(self) surely(self) need(self)",
    ("desk", "Desk"): "__init__(self) answer(self, text)",
}


def modules():
    return [importlib.import_module(f"callsheets.{path.stem}") for path in sorted(PACKAGE.glob("*.py")) if path.stem != "__init__"]


def told_functions(text):
    """Return the pairs of a name and the list of its arguments that a text tells."""
    rows = [row.split("(") for row in text.replace(", ", ",").split(")") if row]
    return [(name.strip(), [word for word in rest.split(",") if word]) for name, rest in rows]


class InterfaceTest(unittest.TestCase):
    def test_functions(self):
        for module_name, text in INTERFACE.items():
            module = importlib.import_module(f"callsheets.{module_name}")
            for name, arguments in told_functions(text):
                function = vars(module)[name]
                self.assertEqual(list(inspect.signature(function).parameters), arguments, name)
                self.assertEqual(function.__module__, module.__name__, name)

    def test_classes(self):
        for (module_name, class_name), text in METHODS.items():
            told = vars(importlib.import_module(f"callsheets.{module_name}"))[class_name]
            self.assertEqual(told.__module__, f"callsheets.{module_name}")
            for name, arguments in told_functions(text):
                self.assertEqual(list(inspect.signature(vars(told)[name]).parameters), arguments, name)

    def test_error_classes(self):
        found = {}
        for module in modules():
            for name, told in vars(module).items():
                if inspect.isclass(told) and issubclass(told, Exception) and told.__module__ == module.__name__:
                    found[name] = told
        self.assertEqual(found.pop("CallError").__bases__, (ValueError,))
        self.assertEqual(sorted(found), [
            "BookError", "CalendarError", "CaseError", "FilmError", "HouseError", "JournalError", "LargeError", "MendError",
            "MenuError", "MoneyError", "NoticeError", "OrderError", "RuleError", "SheetError", "StockError",
        ])
        for name, told in found.items():
            self.assertEqual(told.__bases__, (CallError,), name)
            with_line = name in ("BookError", "CalendarError", "FilmError", "JournalError", "MenuError", "RuleError")
            error = told("form", 3) if with_line else told("form")
            self.assertEqual(error.code, "form")
            self.assertEqual(vars(error), {"code": "form", "line": 3} if with_line else {"code": "form"})

    def test_lists_that_are_returned_are_new(self):
        case, _ = small_case(1)
        for call in (lambda: natures(case, first_stand(case)), lambda: lines_of("a b\nc")):
            told = call()
            kept = repr(told)
            told.clear()
            self.assertEqual(repr(call()), kept)
        rows = lines_of("a b\nc")
        rows[0].append("d")
        self.assertEqual(lines_of("a b\nc"), [["a", "b"], ["c"]])

    def test_module_level_values_are_plain(self):
        before = {module.__name__: repr({name: told for name, told in vars(module).items() if name.isupper()}) for module in modules()}
        for number in range(10):
            case, book = small_case(number)
            least_mend(case, book, 1)
            best(case)
        for module in modules():
            self.assertEqual(repr({name: told for name, told in vars(module).items() if name.isupper()}), before[module.__name__])


class AgreementTest(unittest.TestCase):
    """No mend, notice, cut or roll disagrees with what explore and run tell."""

    def test_judges_take_what_is_told(self):
        for number in range(200):
            case, book = small_case(number)
            told = explore(case, book)
            if told[0] == "closes":
                self.assertIs(takes_stands(case, book, told[1]), True)
            else:
                self.assertIs(takes_natures(case, book, *told[1:]), True)
                self.assertIs(takes_stands(case, book, (first_stand(case),)), False)
            told = best(case)
            if told[0] == "keeps":
                self.assertIs(takes_dealing(case, told[1], told[2]), True)
                if told[1] > 0:
                    self.assertIs(takes_answers(case, told[1] - 1, too_little(case, told[1] - 1)), True)
            else:
                self.assertIs(takes_answers(case, None, told[1]), True)

    def test_no_day_book_costs_less_than_the_need(self):
        for case, book in closing_cases(range(300)):
            amount = need(case, first_stand(case))
            self.assertIsNotNone(amount)
            self.assertLessEqual(amount, reserve(case, book))

    def test_mends_and_denials(self):
        for number in range(150):
            case, book = small_case(number)
            for most in (0, 1, 2):
                mend = least_mend(case, book, most)
                if mend is None:
                    self.assertIs(takes_denial(case, book, most, denial(case, book, most)), True)
                else:
                    self.assertEqual(explore(case, mended(case, book, mend))[0], "closes")
                    self.assertIsNotNone(need(case, first_stand(case)))

    def test_one_mend_behind_another(self):
        for case, book in closing_cases(range(120)):
            for line, (day, _, old) in enumerate(book):
                for number in range(len(case[3][day])):
                    mend = (("sheet", line, number),)
                    if number != old and explore(case, mended(case, book, mend))[0] == "closes":
                        there = touched(case, book, mend)
                        back = touched(case, mended(case, book, mend), (("sheet", line, old),))
                        self.assertEqual([(stand, new, told) for stand, told, new in there], list(back))

    def test_all_courses_of_a_day_book(self):
        for case, book in closing_cases(range(200)):
            costs, days, rolls = [], [], []
            stands = set(explore(case, book)[1])
            every = tuple(range(len(case[0][2])))
            for course in all_courses(case, book):
                pairs = tuple((number, triple) for _, number, triple, _ in course)
                passed, (word, cost) = run(case, pairs)
                self.assertEqual(word, "through")
                self.assertLessEqual(set(passed), stands)
                self.check_words(case, book, passed)
                self.check_house(case, book, pairs, cost)
                costs.append(cost)
                days.append(cut_day(case, pairs, every, 1))
                rolls.append(rolls_of(case, pairs, 120))
            self.assertEqual(reserve(case, book), max(costs))
            self.assertEqual(cut_days(case, book, every, 1), (min(days), max(days)))
            self.assertEqual(most_rolls(case, book, 120), max(rolls))

    def check_words(self, case, book, passed):
        """What is sure for an actor along a course comes so."""
        for at, actor in itertools.product(range(len(passed) - 1), (0, 1)):
            for later, (word, _, _) in enumerate(notice(case, book, passed[at], actor)):
                after = passed[at + later + 1:at + later + 2]
                works = bool(after) and after[0][2][actor] != (-1, 0)
                self.assertTrue(word == "perhaps" or works == (word == "on"))

    def check_house(self, case, book, pairs, cost):
        house = House(case, book)
        for number, triple in pairs:
            self.assertEqual(house.tonight(), number)
            self.assertIs(house.surely(), True)
            house.shoot(triple)
        self.assertEqual(house.state()[::2], ("through", cost))
        self.assertEqual(replay(case, (), journal(house)).state(), house.state())

    def test_boards_and_held_actors(self):
        for case, book in closing_cases(range(200)):
            told = board(case, book)
            self.assertIs(takes_board(case, book, told), True)
            words_at = dict(told)
            for actor in (0, 1):
                counts = []
                for course in all_courses(case, book):
                    counts.append(sum(words_at[stand][actor].count("perhaps") for stand, _, _, _ in course))
                self.assertEqual(held(case, book, actor), (min(counts), max(counts)))

    def test_a_late_course_is_a_course(self):
        seen = 0
        for case, book in closing_cases(range(200)):
            scenes = range(len(case[0][2]))
            for one, other in itertools.permutations(scenes, 2):
                try:
                    triples = late_course(case, book, (one,), (other,))
                except StockError:
                    continue
                seen += 1
                stand, pairs = first_stand(case), []
                for triple in triples:
                    pairs.append((choice(book, stand), triple))
                    stand = step(case, stand, *pairs[-1])[1]
                self.assertEqual(run(case, tuple(pairs))[0][-1], stand)
                self.assertIn(other, stand[1])
                self.assertNotIn(one, stand[1])
                self.assertIs(is_through(case, stand), False)
        self.assertGreater(seen, 20)

    def test_news_that_are_taken_back(self):
        for number in range(60):
            case, book = small_case(number)
            if not any(actor == 0 for actor, _, _ in case[1][1]):
                other = with_news(case, ("away", 0, 1, 1))
                self.assertEqual(with_news(other, ("back", 0, 1)), case)
            other = with_news(case, ("bounds", (3, 3, 3, 30)))
            if explore(other, book)[0] == "closes":
                self.assertEqual(explore(case, book)[0], "closes")
            self.assertEqual(with_news(other, ("bounds", case[4])), case)


if __name__ == "__main__":
    unittest.main()
