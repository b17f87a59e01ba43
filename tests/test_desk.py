"""Point 1305: the desk."""

import random
import unittest

from small_cases import PAIR_TEXT as FILM
from small_cases import small_case

from callsheets.booktext import parse_book, print_book
from callsheets.calendars import print_calendar
from callsheets.daybooks import explore, reserve
from callsheets.dealings import best
from callsheets.desk import Desk
from callsheets.errors import CaseError
from callsheets.films import print_film
from callsheets.house import House
from callsheets.journal import journal
from callsheets.menus import print_fees, print_menu
from callsheets.ruletext import print_rules
from callsheets.stands import natures

CALENDAR = "day 400 1000\n" * 3
RULES = "rule r all : work < 600\n"
MENU = """\
sheet 0 600 : a b / a
sheet 0 600 : a / a
sheet 1 600 : /
sheet 1 600 : a b / a
sheet 2 600 : a b / a
"""
FEES = "fee ann 100\nfee ben 10\n"
BOOK = "day 0 : 0\nday 1 : 1\nday 2 : 0\n"
BROKEN_BOOK = "day 0 : 1\nday 1 : 0\nday 2 : 0\n"
TEXTS = (("FILM", FILM), ("CALENDAR", CALENDAR), ("RULES", RULES), ("MENU", MENU), ("FEES", FEES))
WITHOUT_TEXT = ("BOUNDS 1 0 0 20", "EXPLORE", "RESERVE", "BEST", "TONIGHT", "PUT 0", "DAY dry - 0", "BACK", "STATE", "JOURNAL")
OF_HOUSE = ("TONIGHT", "PUT 0", "DAY dry - 0", "DAY rain ann 5", "BACK", "STATE", "JOURNAL")


def full_desk(book=BOOK, bounds="1 0 0 20"):
    desk = Desk()
    answers = [desk.answer(f"{word}\n{text}") for word, text in TEXTS]
    answers += [desk.answer("BOUNDS " + bounds), desk.answer("BOOK\n" + book)]
    assert answers == ["OK"] * 7, answers
    return desk


def all_answers(desk):
    """Return what a desk answers to all commands that change nothing."""
    return [desk.answer(text) for text in ("EXPLORE", "RESERVE", "BEST", "TONIGHT", "STATE", "JOURNAL", "BOOK\nx", "MENU\nx")]


class DeskTest(unittest.TestCase):
    def check(self, desk, *pairs):
        for text, wanted in pairs:
            self.assertEqual(desk.answer(text), wanted, text)


class PartsTest(DeskTest):
    def test_nothing_yet(self):
        desk = Desk()
        for text in ("CALENDAR\n" + CALENDAR, "RULES\n", "MENU\nx", "FEES\n", "BOOK\n", "BOUNDS 1 1 1 20", "BOUNDS 9 9 9 9"):
            self.check(desk, (text, "NO FILM"))
        for text in ("EXPLORE", "RESERVE", "BEST"):
            self.check(desk, (text, "NO CASE"))
        for text in OF_HOUSE:
            self.check(desk, (text, "NO BOOK"))
        self.assertIn("answer", vars(Desk))

    def test_part_by_part(self):
        desk = Desk()
        self.check(desk, ("FILM\n" + FILM, "OK"), ("MENU\n" + MENU, "NO CALENDAR"), ("BOOK\n" + BOOK, "NO CASE"))
        self.check(desk, ("RULES\n", "OK"), ("FEES\n", "OK"), ("BOUNDS 0 0 0 5", "OK"), ("MENU\n" + MENU, "NO CALENDAR"))
        self.check(desk, ("CALENDAR\n" + CALENDAR, "OK"), ("BOOK\n" + BOOK, "NO CASE"), ("BEST", "NO CASE"))
        self.check(desk, ("MENU\n" + MENU, "OK"), ("EXPLORE", "NO BOOK"), ("RESERVE", "NO BOOK"), ("BEST", "KEEPS 0"))
        self.check(desk, ("TONIGHT", "NO BOOK"), ("BOOK\n" + BOOK, "OK"), ("EXPLORE", "CLOSES 2"), ("RESERVE", "0"))

    def test_each_part_is_needed_for_a_case(self):
        for lacking in ("CALENDAR", "RULES", "MENU", "FEES", "BOUNDS"):
            desk = Desk()
            for word, text in TEXTS:
                if word not in (lacking, "MENU") or word == "MENU" and lacking not in ("MENU", "CALENDAR"):
                    self.check(desk, (f"{word}\n{text}", "OK"))
            if lacking != "BOUNDS":
                self.check(desk, ("BOUNDS 0 0 0 20", "OK"))
            self.check(desk, ("BOOK\nwrong", "NO CASE"), ("EXPLORE", "NO CASE"), ("RESERVE", "NO CASE"), ("BEST", "NO CASE"))
            self.check(desk, *[(text, "NO BOOK") for text in OF_HOUSE])

    def test_wrong_texts(self):
        desk = full_desk()
        kept = all_answers(desk)
        for text, wanted in (
            ("FILM\n", "none 1"), ("FILM\nplace p\n", "form 0"), ("FILM\n" + FILM + "scene c q any 5 :", "unknown 6"),
            ("FILM\n" + "#" * 6001, "long 0"), ("CALENDAR\n", "none 1"), ("CALENDAR\nday 0 10\nday 5 5", "light 1"),
            ("RULES\nrule r all : work < 600\nrule r all : work < 600", "twice 1"), ("RULES\nrule", "form 0"),
            ("MENU\n", "none 1"), ("MENU\nsheet 0 1441 : /", "call 0"), ("MENU\nsheet 0 0 : c /", "unknown 0"),
            ("FEES\nfee ann 1\nfee ann 1", "twice 1"), ("FEES\n\nover ann 9999 1", "steps 1"),
            ("BOOK\nday 0 : 2", "sheet 0"), ("BOOK\n\n\nday 3 : 0", "day 2"), ("BOUNDS 4 0 0 20", "bounds"),
            ("BOUNDS 0 0 0 4", "bounds"), ("BOUNDS 0 0 0 241", "bounds"), ("BOUNDS 99999 0 0 20", "bounds"),
        ):
            self.check(desk, (text, "WRONG " + wanted))
            self.assertEqual(all_answers(desk), kept, text)

    def test_a_wrong_text_keeps_the_house(self):
        desk = full_desk()
        self.check(desk, ("DAY rain - 0", "OK 100"), ("PUT 0", "OK"))
        for text in ("FILM\nx", "CALENDAR\nx", "RULES\nx", "MENU\nx", "FEES\nx", "BOOK\nx", "BOUNDS 9 9 9 9"):
            self.assertEqual(desk.answer(text)[:6], "WRONG ")
            self.check(desk, ("STATE", "OPEN 1 100"), ("TONIGHT", "SHEET 0"))

    def test_a_new_film_takes_away_all(self):
        desk = full_desk()
        self.check(desk, ("FILM\n" + FILM, "OK"), ("STATE", "NO BOOK"), ("EXPLORE", "NO CASE"), ("BEST", "NO CASE"))
        self.check(desk, ("MENU\n" + MENU, "NO CALENDAR"))
        # One of the others after the other, but never all of them.
        for word, text in TEXTS[1:]:
            self.check(desk, ("BOOK\n" + BOOK, "NO CASE"), (f"{word}\n{text}", "OK"))
        self.check(desk, ("BOOK\n" + BOOK, "NO CASE"), ("BOUNDS 1 0 0 20", "OK"), ("BOOK\n" + BOOK, "OK"))

    def test_a_new_calendar_takes_away_the_menu(self):
        desk = full_desk()
        self.check(desk, ("CALENDAR\n" + CALENDAR, "OK"), ("STATE", "NO BOOK"), ("BEST", "NO CASE"), ("BOOK\n" + BOOK, "NO CASE"))
        self.check(desk, ("MENU\n" + MENU, "OK"), ("EXPLORE", "NO BOOK"), ("BEST", "KEEPS 110"), ("BOOK\n" + BOOK, "OK"))
        self.check(desk, ("EXPLORE", "CLOSES 4"))

    def test_what_else_is_new_takes_away_the_day_book(self):
        for text in ("RULES\n", "MENU\n" + MENU, "FEES\n", "BOUNDS 1 0 0 20"):
            desk = full_desk()
            self.check(desk, ("DAY dry - 0", "OK 110"), (text, "OK"))
            self.check(desk, ("EXPLORE", "NO BOOK"), ("RESERVE", "NO BOOK"), *[(told, "NO BOOK") for told in OF_HOUSE])
            self.assertEqual(desk.answer("BEST")[:5], "KEEPS")
            self.check(desk, ("BOOK\n" + BOOK, "OK"), ("STATE", "OPEN 0 0"))

    def test_a_new_day_book_begins_a_new_house(self):
        desk = full_desk()
        self.check(desk, ("DAY rain - 0", "OK 100"), ("PUT 0", "OK"), ("BOOK\n" + BROKEN_BOOK, "OK"))
        self.check(desk, ("STATE", "OPEN 0 0"), ("JOURNAL", ""), ("TONIGHT", "SHEET 1"), ("BACK", "NONE"), ("EXPLORE", "BREAKS 3"))

    def test_a_new_part_is_what_counts(self):
        desk = full_desk()
        self.check(desk, ("BEST", "KEEPS 110"), ("FEES\nfee ann 7", "OK"), ("BEST", "KEEPS 7"))
        self.check(desk, ("RULES\nrule r ann : work < 5", "OK"), ("BEST", "NEVER"))
        self.check(desk, ("RULES\n", "OK"), ("BOUNDS 3 0 0 20", "OK"), ("BEST", "NEVER"), ("BOUNDS 0 0 0 20", "OK"), ("BEST", "KEEPS 7"))

    def test_two_desks(self):
        one, other = full_desk(), Desk()
        self.check(other, ("STATE", "NO BOOK"), ("BEST", "NO CASE"))
        self.check(one, ("STATE", "OPEN 0 0"))


class AnswersTest(DeskTest):
    def test_explore_reserve_and_best(self):
        desk = full_desk()
        self.check(desk, ("EXPLORE", "CLOSES 4"), ("RESERVE", "110"), ("BEST", "KEEPS 110"))
        desk = full_desk(BROKEN_BOOK)
        self.check(desk, ("EXPLORE", "BREAKS 3"), ("RESERVE", "BREAKS"), ("BEST", "KEEPS 110"))
        desk = full_desk("", "3 0 0 20")
        self.check(desk, ("EXPLORE", "BREAKS 0"), ("RESERVE", "BREAKS"), ("BEST", "NEVER"))

    def test_large(self):
        desk = Desk()
        actors = "".join(f"actor {name}\n" for name in "abcd")
        scenes = "".join(f"scene s{k} p any 60 : {'abcd'[k % 4]}\n" for k in range(12))
        names = [f"s{k}" for k in range(12)]
        menu = "".join(f"sheet {k} 600 : {' '.join(names[k:] + names[:k])} / s{k}\n" for k in range(10))
        for word, text in (("FILM", "place p inside\n" + actors + scenes), ("CALENDAR", "day 0 1440\n" * 10), ("RULES", ""),
                           ("MENU", menu), ("FEES", "")):
            self.check(desk, (f"{word}\n{text}", "OK"))
        book = "".join(f"day {day} : 0\n" for day in range(10))
        self.check(desk, ("BOUNDS 3 3 3 20", "OK"), ("BEST", "LARGE"), ("BOOK\n" + book, "OK"), ("EXPLORE", "LARGE"),
                   ("RESERVE", "LARGE"), ("TONIGHT", "SHEET 0"), ("DAY rain - 0", "OK 0"))

    def test_the_house(self):
        desk = full_desk()
        self.check(
            desk, ("STATE", "OPEN 0 0"), ("TONIGHT", "SHEET 0"), ("JOURNAL", ""), ("BACK", "NONE"), ("PUT 2", "NO sheet"),
            ("PUT 1", "OK"), ("TONIGHT", "SHEET 1"), ("DAY rain - 20", "NO nature"), ("DAY dry ann 0", "NO nature"),
            ("DAY rain - 0", "OK 100"), ("STATE", "OPEN 1 100"), ("TONIGHT", "SHEET 1"), ("DAY rain - 0", "NO nature"),
            ("DAY dry - 0", "OK 10"), ("STATE", "THROUGH 110"), ("TONIGHT", "NONE"), ("PUT 0", "NO over"), ("DAY dry - 0", "NO over"),
            ("JOURNAL", "day 1 rain - 0 check 6821\nday 1 dry - 0 check 5746\n"), ("BACK", "OK"), ("STATE", "OPEN 1 100"), ("BACK", "OK"),
            ("STATE", "OPEN 0 0"), ("BACK", "NONE"), ("JOURNAL", ""),
        )

    def test_broken(self):
        desk = full_desk(BROKEN_BOOK)
        self.check(
            desk, ("DAY dry - 0", "OK 100"), ("DAY dry - 0", "OK 0"), ("DAY rain - 0", "BROKEN"), ("STATE", "BROKEN"), ("TONIGHT", "NONE"),
            ("PUT 0", "NO over"), ("DAY dry - 0", "NO over"), ("EXPLORE", "BREAKS 3"), ("BACK", "OK"), ("STATE", "OPEN 2 100"),
            ("DAY dry - 0", "OK 10"), ("STATE", "THROUGH 110"),
        )

    def test_no_sheet(self):
        desk = full_desk("day 1 : 0")
        self.check(desk, ("TONIGHT", "NONE"), ("DAY dry - 0", "NO none"), ("DAY dry ann 0", "NO none"), ("STATE", "OPEN 0 0"),
                   ("PUT 0", "OK"), ("TONIGHT", "SHEET 0"), ("DAY dry - 0", "OK 110"))

    def test_names_of_actors(self):
        desk = full_desk(bounds="1 1 1 20")
        self.check(desk, ("DAY dry zed 0", "NO COMMAND"), ("DAY dry a 0", "NO COMMAND"), ("DAY dry ben 20", "OK 100"),
                   ("JOURNAL", "day 0 dry ben 20 check 9924\n"))
        # Where there is no house yet, any name may be one.
        self.check(Desk(), ("DAY dry zed 0", "NO BOOK"))
        desk.answer("DAY dry - 0")
        self.check(desk, ("STATE", "THROUGH 110"), ("DAY dry zed 0", "NO COMMAND"), ("DAY dry ann 0", "NO over"))


class CommandTest(DeskTest):
    def test_no_command(self):
        for desk in (Desk(), full_desk()):
            for text in (
                "", " ", "\n", "#", "film", "FILM", "CALENDAR", "RULES", "MENU", "FEES", "BOOK", "HELP", "BOUNDS", "BOUNDS 1 0 0",
                "BOUNDS 1 0 0 20 1", "BOUNDS 1 0 0 x", "BOUNDS 1 0 0 020", "BOUNDS -1 0 0 20", "BOUNDS 123456 0 0 20", "PUT", "PUT x",
                "PUT -1", "PUT 0 0", "PUT 00", "PUT 123456", "DAY", "DAY dry", "DAY dry -", "DAY dry - 0 0", "DAY snow - 0", "DAY dry - x",
                "DAY dry - 00", "DAY dry Ann 0", "DAY dry -1 0", "DAY dry -- 0", "DAY - dry 0", "DAY DRY - 0", "DAY 0 dry - 0",
                "EXPLORE 1", "BEST x", "STATE STATE", "EXPLORE#", "STATE #", "TONIGHT\t", "Explore",
            ):
                self.check(desk, (text, "NO COMMAND"))

    def test_more_spaces(self):
        for desk in (Desk(), full_desk()):
            for text in WITHOUT_TEXT:
                others = [" " + text, text + " ", text.replace(" ", "  ", 1) if " " in text else text + "  "]
                for other in others:
                    self.check(desk, (other, "NO COMMAND"))
            for word, text in TEXTS + (("BOOK", BOOK),):
                self.check(desk, (f" {word}\n{text}", "NO COMMAND"), (f"{word} \n{text}", "NO COMMAND"))

    def test_a_text_where_there_is_none(self):
        for desk in (Desk(), full_desk()):
            for text in WITHOUT_TEXT:
                self.check(desk, (text + "\n", "NO COMMAND"), (text + "\nday 0 : 0", "NO COMMAND"))

    def test_no_newline_where_there_is_one(self):
        for desk in (Desk(), full_desk()):
            for word, text in TEXTS + (("BOOK", BOOK),):
                self.check(desk, (word, "NO COMMAND"), (f"{word} {text}", "NO COMMAND"))

    def test_no_command_changes_nothing(self):
        desk = full_desk()
        desk.answer("DAY rain - 0")
        kept = all_answers(desk)
        for text in ("FILM", "DAY dry zed 0", "PUT x", "BACK\n", "BOUNDS 1 1 1", " BACK", "CALENDAR"):
            self.check(desk, (text, "NO COMMAND"))
            self.assertEqual(all_answers(desk), kept)

    def test_any_texts(self):
        source = random.Random(1)
        words = ["FILM", "CALENDAR", "RULES", "MENU", "FEES", "BOOK", "BOUNDS", "EXPLORE", "RESERVE", "BEST", "TONIGHT", "PUT", "DAY",
                 "BACK", "STATE", "JOURNAL", "dry", "rain", "-", "ann", "zed", "0", "1", "20", "", "#", "\n", "sheet", "day", "/", ":"]
        desk = full_desk(bounds="1 1 1 20")
        seen = set()
        for _ in range(4000):
            text = source.choice((" ", " ", "\n")).join(source.choice(words) for _ in range(source.randint(1, 5)))
            answer = desk.answer(text)
            self.assertIsInstance(answer, str)
            seen.add(answer.split(" ")[0])
        self.assertIn("WRONG", seen)
        self.assertIn("OK", seen)


class SmallCasesTest(DeskTest):
    def test_against_the_functions(self):
        source = random.Random(3)
        for number in range(80):
            case, book = small_case(number)
            film = case[0]
            desk = Desk()
            for text in ("FILM\n" + print_film(film), "CALENDAR\n" + print_calendar(film, case[1]), "RULES\n" + print_rules(film, case[2]),
                         "MENU\n" + print_menu(film, case[3]), "FEES\n" + print_fees(film, case[5]),
                         "BOUNDS " + " ".join(map(str, case[4])), "BOOK\n" + print_book(case, book)):
                self.check(desk, (text, "OK"))
            self.assertEqual(parse_book(case, print_book(case, book)), book)
            told = explore(case, book)
            self.check(desk, ("EXPLORE", f"{told[0].upper()} {len(told[1])}"))
            try:
                self.check(desk, ("RESERVE", str(reserve(case, book))))
            except CaseError:
                self.check(desk, ("RESERVE", "BREAKS"))
            told = best(case)
            self.check(desk, ("BEST", f"KEEPS {told[1]}" if told[0] == "keeps" else "NEVER"))
            self.check_days(source, desk, House(case, book))

    def check_days(self, source, desk, house):
        names = [name for name, _ in house.case[0][1]] + ["-"]
        while house.state()[0] == "open" and house.tonight() is not None:
            self.check(desk, ("TONIGHT", f"SHEET {house.tonight()}"))
            weather, ill, late = source.choice(natures(house.case, house.state()[1]))
            told = house.shoot((weather, ill, late))
            wanted = "BROKEN" if told[0] == "break" else f"OK {told[2]}"
            self.check(desk, (f"DAY {weather} {names[ill]} {late}", wanted), ("JOURNAL", journal(house)))
        word, stand, told = house.state()
        states = {"open": f"OPEN {stand[0]} {told}", "through": f"THROUGH {told}", "broken": "BROKEN"}
        self.check(desk, ("STATE", states[word]), ("TONIGHT", "NONE"))


if __name__ == "__main__":
    unittest.main()
