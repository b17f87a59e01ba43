"""Point 1304: journals of houses."""

import random
import unittest

from small_cases import PAIR_TEXT, small_case

from callsheets.booktext import parse_book
from callsheets.calendars import parse_calendar
from callsheets.errors import CallError
from callsheets.films import parse_film
from callsheets.house import House
from callsheets.journal import JournalError, check_number, journal, replay
from callsheets.stands import natures

FILM = parse_film(PAIR_TEXT)
BOTH, ONE, NOTHING = (600, (0, 1), (0,)), (600, (0,), (0,)), (600, (), ())
CASE = (FILM, parse_calendar(FILM, "day 400 1000\n" * 3), (), ((BOTH, ONE), (NOTHING, BOTH), (BOTH,)), (1, 1, 1, 20),
        ((100, ()), (10, ())))
BOOK = parse_book(CASE, "day 0 : 0\nday 1 : 1")
SIGNS = [chr(code) for code in range(32, 127) if chr(code) != "%"] + ["\n", "\t", "\r"]


def line(text):
    """Return a line of a journal with the right check number."""
    return f"{text} check {sum(place * ord(sign) for place, sign in enumerate(text, start=1)) % 65521}\n"


def random_house(source, case, book):
    house = House(case, book)
    for _ in range(source.randint(0, 4)):
        if house.state()[0] != "open":
            break
        stand = house.state()[1]
        house.put(source.randrange(len(case[3][stand[0]])))
        house.shoot(source.choice(natures(case, stand)))
    return house


class CheckNumberTest(unittest.TestCase):
    def test_numbers(self):
        self.assertEqual(check_number(""), 0)
        self.assertEqual(check_number("a"), 97)
        self.assertEqual(check_number("ab"), 97 + 2 * 98)
        self.assertEqual(check_number(" \n"), 32 + 20)
        self.assertEqual(check_number("~" * 31), 126 * 31 * 16)
        self.assertEqual(check_number("~" * 32), 126 * 32 * 33 // 2 - 65521)
        self.assertEqual(check_number("day 0 dry - 0"), 5741)


class JournalTest(unittest.TestCase):
    def test_what_is_written(self):
        house = House(CASE, BOOK)
        self.assertEqual(journal(house), "")
        house.shoot(("rain", 1, 20))
        house.put(0)
        house.shoot(("dry", -1, 0))
        wanted = line("day 0 rain ben 20") + line("day 0 dry - 0")
        self.assertEqual(journal(house), wanted)
        self.assertEqual(wanted.split("\n")[1], "day 0 dry - 0 check 5741")
        house.back()
        self.assertEqual(journal(house), line("day 0 rain ben 20"))

    def test_the_broken_day_is_in_it(self):
        house = House(CASE, ((0, None, 1), (1, None, 0), (2, None, 0)))
        for nature in (("dry", -1, 0), ("dry", 1, 0), ("rain", -1, 0)):
            house.shoot(nature)
        self.assertEqual(house.state()[0], "broken")
        self.assertEqual(journal(house).split("\n")[2][:14], "day 0 rain - 0")
        again = replay(CASE, (), journal(house))
        self.assertEqual((again.state(), again.days()), (house.state(), house.days()))

    def test_written_and_read_back(self):
        source = random.Random(1)
        seen = []
        for number in range(200):
            case, book = small_case(number)
            house = random_house(source, case, book)
            seen.append(house.state()[0])
            text = journal(house)
            kept = repr((case, book))
            again = replay(case, book, text)
            self.assertIsInstance(again, House)
            self.assertEqual((again.state(), again.days()), (house.state(), house.days()))
            self.assertEqual(again.tonight(), house.tonight())
            self.assertEqual(journal(again), text)
            self.assertEqual(repr((case, book)), kept)
        self.assertGreater(min(seen.count(word) for word in ("open", "through", "broken")), 15)

    def test_a_replayed_house_goes_on(self):
        house = replay(CASE, BOOK, line("day 0 rain - 0"))
        self.assertEqual(house.tonight(), 1)
        house.shoot(("dry", -1, 0))
        self.assertEqual(house.state()[::2], ("through", 110))
        self.assertIs(house.back(), True)
        self.assertIs(house.back(), True)
        self.assertEqual(house.days(), ())


class ReplayErrorTest(unittest.TestCase):
    def check_fault(self, code, at, text, case=CASE, book=BOOK):
        with self.assertRaises(JournalError) as caught:
            replay(case, book, text)
        self.assertEqual((caught.exception.code, caught.exception.line), (code, at), text)

    def test_the_error(self):
        self.assertEqual(JournalError.__bases__, (CallError,))
        self.assertEqual(JournalError.__module__, "callsheets.journal")

    def test_form(self):
        good = line("day 1 dry - 0")
        for text in (
            "day 1 dry - 0", "day 1 dry - 0 check", "day 1 dry - 0 check x", "day 1 dry - 0 check 05741", "day 1 dry check 5",
            "check 5", "day 1 dry - 0 Check 5742", "day 1 dry - 0 5742", "day 1 dry - 0 check 123456", "day 1 dry - 0 check -1",
        ):
            self.check_fault("form", 0, text + "\n")
            self.check_fault("form", 1, good + text + "\n" + good)
        for text in (
            "day x dry - 0", "day 01 dry - 0", "day 1 snow - 0", "day 1 Dry - 0", "day 1 dry Ann 0", "day 1 dry -1 0", "day 1 dry -- 0",
            "day 1 dry - 00", "day 1 dry - x", "day 1 dry - 123456", "Day 1 dry - 0", "day 1 dry - ", "day  1 dry - 0", " day 1 dry - 0",
            "day 1 dry - 0 ", "day 1 dry  - 0", "day 1 dry -  0", "day\t1 dry - 0", "day 1 dry - 0 0", "day dry - 0", "day 123456 dry - 0",
            "day 1 dry - 0 #", "", "#", "# day 1 dry - 0",
        ):
            self.check_fault("form", 0, line(text))
        for text in (good[:-1] + " \n", " " + good, good[:-1] + "#\n", good.replace(" check", "  check"),
                     good.replace("check ", "check  "), "\n", "\n" + good, "#\n" + good, " \n", good.replace("\n", "\r\n")):
            self.check_fault("form", 0, text)
        self.check_fault("form", 1, good + "\n")
        self.check_fault("form", 1, good + "# end\n")

    def test_no_newline_at_the_end(self):
        self.assertEqual(replay(CASE, BOOK, "").days(), ())
        self.check_fault("form", 0, line("day 1 dry - 0")[:-1])
        self.check_fault("form", 1, line("day 1 dry - 0") + line("day 0 dry - 0")[:-1])
        self.check_fault("form", 1, line("day 1 dry - 0") + " ")
        self.check_fault("form", 0, "x")
        # An earlier line is looked at first.
        self.check_fault("sheet", 0, line("day 9 dry - 0") + "x")

    def test_check(self):
        good = line("day 1 dry - 0")
        number = int(good.split(" ")[-1])
        for other in (0, number - 1, number + 1, 65521, number + 65521 if number < 34000 else 1):
            self.check_fault("check", 0, f"day 1 dry - 0 check {other}\n")
        self.check_fault("check", 1, good + good.replace("day 1", "day 2"))
        # Ahead of all that it tells.
        self.check_fault("check", 0, "day 9 dry zed 7 check 1\n")

    def test_over(self):
        through = line("day 0 dry - 0")
        self.check_fault("over", 1, through + line("day 0 dry - 0"))
        self.check_fault("over", 1, through + line("day 9 dry zed 7"))
        broken = line("day 1 dry - 0") + line("day 0 dry - 0") + line("day 0 rain - 0")
        self.assertEqual(replay(CASE, BOOK, broken).state()[0], "broken")
        self.check_fault("over", 3, broken + line("day 0 dry - 0"))
        self.check_fault("check", 3, broken + "day 0 dry - 0 check 7\n")

    def test_sheet_and_nature(self):
        for number in (2, 3, 99999):
            self.check_fault("sheet", 0, line(f"day {number} dry - 0"))
            self.check_fault("sheet", 0, line(f"day {number} dry zed 7"))
        self.check_fault("sheet", 2, line("day 1 dry - 0") + line("day 0 dry - 0") + line("day 1 dry - 0"))
        for text in ("day 1 dry - 7", "day 1 dry zed 0", "day 1 dry a 0", "day 1 rain all 20", "day 1 dry meal 0"):
            self.check_fault("nature", 0, line(text))
        self.check_fault("nature", 1, line("day 1 rain - 0") + line("day 1 rain - 0"))
        self.check_fault("nature", 1, line("day 1 dry ann 0") + line("day 1 dry ben 0"))

    def test_one_character_changed(self):
        source = random.Random(2)
        texts = [line("day 1 rain ben 20"), line("day 1 dry - 0") + line("day 0 dry ann 20") + line("day 0 dry - 0")]
        for text in texts:
            self.assertEqual(journal(replay(CASE, BOOK, text)), text)
            starts = [0] + [at + 1 for at, sign in enumerate(text) if sign == "\n"]
            for at, sign in enumerate(text):
                wanted = max(count for count, start in enumerate(starts) if start <= at)
                for other in SIGNS:
                    if other != sign:
                        with self.assertRaises(JournalError) as caught:
                            replay(CASE, BOOK, text[:at] + other + text[at + 1:])
                        self.assertEqual(caught.exception.line, wanted)
                        self.assertIn(caught.exception.code, ("form", "check"))
        for number in range(100):
            case, book = small_case(number)
            text = journal(random_house(source, case, book))
            for _ in range(40 if text else 0):
                at = source.randrange(len(text))
                other = source.choice([sign for sign in SIGNS if sign != text[at]])
                with self.assertRaises(JournalError):
                    replay(case, book, text[:at] + other + text[at + 1:])

    def test_lines_left_out_doubled_and_exchanged(self):
        rows = [line("day 1 rain - 0"), line("day 0 dry ann 0"), line("day 0 dry - 20")]
        whole = replay(CASE, BOOK, "".join(rows))
        self.assertEqual(whole.state()[0], "through")
        # Without its last line a journal leads to the day ahead of it.
        self.assertEqual(replay(CASE, BOOK, "".join(rows[:2])).days(), whole.days()[:2])
        self.assertEqual(replay(CASE, BOOK, "".join(rows[1:])).days(), whole.days()[1:])
        self.check_fault("nature", 1, rows[0] + rows[0])
        self.check_fault("over", 3, "".join(rows) + rows[2])
        self.check_fault("nature", 2, rows[0] + rows[2] + rows[2])
        self.assertEqual(replay(CASE, BOOK, rows[0] + rows[2] + rows[1]).days(), tuple(whole.days()[k] for k in (0, 2, 1)))
        self.check_fault("over", 2, rows[1] + rows[0] + rows[2])
        self.check_fault("sheet", 2, rows[1] + rows[2] + rows[0])


if __name__ == "__main__":
    unittest.main()
