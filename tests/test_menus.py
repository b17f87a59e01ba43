"""Point 1301: the texts of menus and fees."""

import itertools
import random
import unittest

from small_cases import small_case

from callsheets.calendars import parse_calendar
from callsheets.errors import CallError
from callsheets.films import parse_film
from callsheets.menus import MenuError, parse_fees, parse_menu, print_fees, print_menu

FILM = parse_film("place p inside\nactor ann\nactor ben\nscene a p any 60 :\nscene b p any 60 :\nscene c12345678901 p any 5 :")
CALENDAR = parse_calendar(FILM, "day 400 1000\n" * 2)
ONE = parse_calendar(FILM, "day 400 1000")
END = "\nsheet 0 0 : /\nsheet 1 0 : /"


class FaultTest(unittest.TestCase):
    def check_fault(self, code, line, call):
        with self.assertRaises(MenuError) as caught:
            call()
        self.assertEqual((caught.exception.code, caught.exception.line), (code, line))

    def check_menu_fault(self, code, line, text):
        self.check_fault(code, line, lambda: parse_menu(FILM, CALENDAR, text))

    def check_fees_fault(self, code, line, text):
        self.check_fault(code, line, lambda: parse_fees(FILM, text))


class MenuTest(FaultTest):
    def test_the_error(self):
        self.assertEqual(MenuError.__bases__, (CallError,))
        self.assertEqual(MenuError.__module__, "callsheets.menus")

    def test_what_is_read(self):
        text = "sheet 1 480 : a b meal / a\nsheet 0 600 : / meal meal c12345678901\nsheet 1 1440 : b /"
        wanted = (((600, (), (-1, -1, 2)),), ((480, (0, 1, -1), (0,)), (1440, (1,), ())))
        self.assertEqual(parse_menu(FILM, CALENDAR, text), wanted)
        self.assertEqual(parse_menu(FILM, CALENDAR, text + "\n"), wanted)

    def test_spaces_remarks_and_lines_without_words(self):
        text = "# the menu\n\n  sheet  0 600 :  a   / b # one\n   \nsheet 1 0 : /# two\n#sheet 9 9 : x / x\n"
        self.assertEqual(parse_menu(FILM, CALENDAR, text), (((600, (0,), (1,)),), ((0, (), ()),)))

    def test_long(self):
        text = "sheet 0 600 : a / b\nsheet 1 0 : /\n#"
        self.assertEqual(len(parse_menu(FILM, CALENDAR, text + "x" * (6000 - len(text)))), 2)
        self.check_menu_fault("long", 0, text + "x" * (6001 - len(text)))
        self.check_menu_fault("long", 0, "wrong\n" + "x" * 6000)

    def test_form(self):
        for line in (
            "sheet", "sheet 0 0 :", "sheet 0 0 : a", "sheet 0 0 : a b", "sheet 0 0 a / b", "sheet 0 : a / b", "sheet 0 0 0 : a / b",
            "sheet 00 0 : a / b", "sheet x 0 : a / b", "sheet 0 y : a / b", "sheet 0 123456 : a / b", "sheet -1 0 : a / b",
            "sheet 0 0 : a / b / a", "sheet 0 0 : a // b", "sheet 0 0 : a/b", "sheet 0 0 : A / b", "sheet 0 0 : a / 1",
            "sheet 0 0 : a , b / a", "sheet 0 0 : a / -1", "sheet 0 0 : a1234567890123 / b", "Sheet 0 0 : a / b", "day 0 0 : a / b",
            "sheet 0 0 : : /", "sheet 0 0 / a : b", "sheet 0 0 :a / b", "sheet 0 0 : a\t/ b",
        ):
            self.check_menu_fault("form", 0, line + END)
            self.check_menu_fault("form", 2, "sheet 0 0 : /\n\n" + line + END)

    def test_unknown_and_day(self):
        for line in ("sheet 0 0 : d / a", "sheet 0 0 : a / d", "sheet 0 0 : meals /", "sheet 0 0 : / ann", "sheet 9 0 : d /"):
            self.check_menu_fault("unknown", 0, line + END)
        for day in (2, 10, 99999):
            self.check_menu_fault("day", 1, f"#\nsheet {day} 9999 : a a / b" + END)
        self.check_menu_fault("day", 0, "sheet 2 0 : /")

    def test_many(self):
        text = "sheet 1 0 : /\n" * 6
        self.assertEqual(len(parse_menu(FILM, CALENDAR, text + "sheet 0 0 : /")[1]), 6)
        self.check_menu_fault("many", 6, text + "sheet 1 9999 : /\nsheet 0 0 : /")
        self.check_menu_fault("many", 7, text + "sheet 0 0 : /\nsheet 1 0 : /")

    def test_codes_of_the_sheet(self):
        self.assertEqual(parse_menu(FILM, ONE, "sheet 0 1440 : " + "meal " * 12 + "/ a b")[0][0], (1440, (-1,) * 12, (0, 1)))
        self.check_menu_fault("call", 0, "sheet 0 1441 : /" + END)
        self.check_menu_fault("call", 0, "sheet 0 99999 : a a / b" + END)
        self.check_menu_fault("long", 0, "sheet 0 1440 : " + "meal " * 13 + "/" + END)
        self.check_menu_fault("long", 0, "sheet 0 1440 : a a / " + "meal " * 13 + END)
        self.check_menu_fault("twice", 0, "sheet 0 1440 : a meal a /" + END)
        self.check_menu_fault("twice", 2, "sheet 0 0 : /\n\nsheet 0 1440 : a / b a b" + END)

    def test_none(self):
        self.check_menu_fault("none", 1, "")
        self.check_menu_fault("none", 1, "sheet 0 0 : /")
        self.check_menu_fault("none", 2, "sheet 1 0 : /\n")
        self.check_menu_fault("none", 4, "\nsheet 1 0 : /\n\n# end")

    def test_the_first_of_several(self):
        self.check_menu_fault("form", 0, "sheet 2 0 : d\nsheet 0 0 : d /")
        self.check_menu_fault("unknown", 0, "sheet 2 9999 : d /\nsheet")
        self.check_menu_fault("call", 1, "sheet 0 0 : /\nsheet 0 9999 : /\nsheet 0 0 : d /")

    def test_print(self):
        menu = (((600, (), (-1, -1, 2)),), ((480, (0, 1, -1), (0,)), (1440, (1,), ())))
        self.assertEqual(print_menu(FILM, menu), """\
sheet 0 600 : / meal meal c12345678901
sheet 1 480 : a b meal / a
sheet 1 1440 : b /
""")
        self.assertEqual(print_menu(FILM, ((((0, (), ()),)),)), "sheet 0 0 : /\n")
        kept = repr((FILM, menu))
        self.assertEqual(parse_menu(FILM, CALENDAR, print_menu(FILM, menu)), menu)
        self.assertEqual(repr((FILM, menu)), kept)

    def test_what_is_printed_gives_the_menu_back(self):
        for number in range(100):
            case, _ = small_case(number)
            self.assertEqual(parse_menu(case[0], case[1], print_menu(case[0], case[3])), case[3])


class FeesTest(FaultTest):
    def test_what_is_read(self):
        self.assertEqual(parse_fees(FILM, ""), ((0, ()), (0, ())))
        self.assertEqual(parse_fees(FILM, "fee ben 100\n"), ((0, ()), (100, ())))
        text = "over ann 60 3\nfee ben 0 # none\n\n  over ann   480 99999\nfee ann 99999\nover ben 3000 0"
        wanted = ((99999, ((60, 3), (480, 99999))), (0, ((3000, 0),)))
        self.assertEqual(parse_fees(FILM, text), wanted)
        self.assertEqual(parse_fees(FILM, text + "\n"), wanted)
        self.assertEqual(parse_fees(parse_film("place p inside\nscene a p any 60 :"), "# nobody\n"), ())

    def test_long(self):
        text = "fee ann 1\n#"
        self.assertEqual(parse_fees(FILM, text + "x" * (6000 - len(text)))[0], (1, ()))
        self.check_fees_fault("long", 0, text + "x" * (6001 - len(text)))

    def test_form(self):
        for line in (
            "fee", "fee ann", "fee ann x", "fee ann 1 2", "over ann 1", "over ann 1 2 3", "fee Ann 1", "fee 1 ann", "fee ann 01",
            "fee ann 100000", "fee ann -1", "over ann 1 x", "Fee ann 1", "pay ann 1", "fee ann : 1",
        ):
            self.check_fees_fault("form", 1, "fee ben 1\n" + line + "\nfee")

    def test_unknown(self):
        for line in ("fee cleo 1", "over cleo 1 2", "fee all 1", "fee a 1"):
            self.check_fees_fault("unknown", 0, line + "\nfee")

    def test_twice(self):
        self.check_fees_fault("twice", 1, "fee ann 1\nfee ann 1")
        self.check_fees_fault("twice", 3, "fee ann 1\nfee ben 1\nover ann 1 1\nfee ann 0")
        self.check_fees_fault("twice", 1, "fee ann 0\nfee ann 0")

    def test_codes_of_the_money(self):
        self.check_fees_fault("steps", 0, "over ann 3001 5\nover ann 1 1")
        self.check_fees_fault("steps", 1, "over ann 60 5\nover ann 60 6")
        self.check_fees_fault("steps", 1, "over ann 60 5\nover ann 59 5")
        many = "over ann 1 1\nover ann 2 1\nover ann 3 1\nover ann 4 1\n"
        self.assertEqual(len(parse_fees(FILM, many)[0][1]), 4)
        self.assertEqual(parse_fees(FILM, "over ann 0 0\nover ann 3000 0")[0], (0, ((0, 0), (3000, 0))))
        self.check_fees_fault("steps", 4, many + "over ann 5 1")
        self.check_fees_fault("steps", 5, many + "over ben 1 1\nover ann 5 1")

    def test_the_first_of_several(self):
        self.check_fees_fault("form", 1, "fee ann 1\nfee cleo\nfee ann 1")
        self.check_fees_fault("unknown", 1, "fee ann 1\nfee cleo 1\nfee ann 1")
        self.check_fees_fault("steps", 0, "over ann 3001 1\nover")

    def test_print(self):
        fees = ((99999, ((60, 3), (480, 99999))), (0, ()))
        self.assertEqual(print_fees(FILM, fees), "fee ann 99999\nover ann 60 3\nover ann 480 99999\nfee ben 0\n")
        self.assertEqual(print_fees(parse_film("place p inside\nscene a p any 60 :"), ()), "")

    def test_what_is_printed_gives_the_fees_back(self):
        source = random.Random(1)
        for _ in range(60):
            spans = [sorted(source.sample((0, 1, 60, 500, 3000), source.randint(0, 4))) for _ in range(2)]
            fees = tuple((source.choice((0, 5, 99999)), tuple((span, source.choice((0, 7))) for span in row)) for row in spans)
            kept = repr(fees)
            self.assertEqual(parse_fees(FILM, print_fees(FILM, fees)), fees)
            self.assertEqual(repr(fees), kept)
        for steps in itertools.product((0, 3), repeat=2):
            fees = tuple((1, ((5, pay),)) for pay in steps)
            self.assertEqual(parse_fees(FILM, print_fees(FILM, fees)), fees)


if __name__ == "__main__":
    unittest.main()
