"""Points 701 and 702: the texts of day books."""

import itertools
import random
import unittest

from callsheets.booktext import parse_book, print_book
from callsheets.calendars import parse_calendar
from callsheets.errors import BookError, CallError
from callsheets.films import parse_film

FILM = parse_film("""\
place p inside
actor ann
actor not
actor shot
scene one p any 5 :
scene and p any 5 :
scene if p any 5 :
scene rains p any 5 :
""")
SHEET = (480, (0,), ())
MENU = ((SHEET,), (SHEET, SHEET), (SHEET,) * 6)
CASE = (FILM, parse_calendar(FILM, "day 0 1440\n" * 3), (), MENU, (1, 1, 1, 20), ((0, ()),) * 3)
A, B, C = ("shot", 0), ("worked", 0), ("used", 0, ">", 0)


def parsed(text):
    """Return the test that a text makes in a line of its own."""
    (told,) = parse_book(CASE, f"day 0 if {text} : 0")
    return told[1]


class ParseTest(unittest.TestCase):
    def test_lines_with_and_without_tests(self):
        self.assertEqual(parse_book(CASE, ""), ())
        self.assertEqual(parse_book(CASE, "day 0 : 0"), ((0, None, 0),))
        self.assertEqual(
            parse_book(CASE, "day 2 if shot one : 5\nday 1 : 1\n\n  # day 9 : 9\nday   2 :  0  # the rest\nday 2 : 0"),
            ((2, ("shot", 0), 5), (1, None, 1), (2, None, 0), (2, None, 0)),
        )

    def test_atoms(self):
        self.assertEqual(parsed("shot one"), ("shot", 0))
        self.assertEqual(parsed("worked ann"), ("worked", 0))
        for place, word in enumerate(("rains", "ills", "lates")):
            for sign in ("<", "<=", ">", ">=", "=", "!="):
                for number in (0, 3, 99999):
                    self.assertEqual(parsed(f"{word} {sign} {number}"), ("used", place, sign, number))

    def test_names_that_are_words_of_tests(self):
        self.assertEqual(parsed("shot and"), ("shot", 1))
        self.assertEqual(parsed("shot if and shot rains"), ("and", ("shot", 2), ("shot", 3)))
        self.assertEqual(parsed("not worked not"), ("not", ("worked", 1)))
        self.assertEqual(parsed("worked shot then shot and"), ("then", ("worked", 2), ("shot", 1)))
        self.assertEqual(parsed("( shot and and shot and )"), ("and", ("shot", 1), ("shot", 1)))

    def test_how_tests_bind(self):
        for text, test in (
            ("not shot one and worked ann", ("and", ("not", A), B)),
            ("shot one or worked ann and rains > 0", ("or", A, ("and", B, C))),
            ("shot one and worked ann or rains > 0", ("or", ("and", A, B), C)),
            ("shot one or worked ann then rains > 0", ("then", ("or", A, B), C)),
            ("shot one then worked ann then rains > 0", ("then", A, ("then", B, C))),
            ("shot one and worked ann and rains > 0", ("and", ("and", A, B), C)),
            ("shot one or worked ann or rains > 0", ("or", ("or", A, B), C)),
            ("( shot one then worked ann ) then rains > 0", ("then", ("then", A, B), C)),
            ("shot one and ( worked ann or not ( rains > 0 ) )", ("and", A, ("or", B, ("not", C)))),
            ("not ( shot one or worked ann )", ("not", ("or", A, B))),
            ("( ( shot one ) )", A),
        ):
            self.assertEqual(parsed(text), test, text)

    def test_limits_of_tests(self):
        atoms = " and ".join(["rains = 0"] * 20)
        self.assertEqual(parsed(atoms)[0], "and")
        self.check_code("form", 0, f"day 0 if {atoms} and shot one : 0")
        self.assertEqual(parsed("not " * 20 + "shot one")[0], "not")
        self.check_code("form", 0, "day 0 if " + "not " * 21 + "shot one : 0")
        self.assertEqual(parsed("( " * 10 + "shot one" + " )" * 10), A)
        self.check_code("form", 0, "day 0 if " + "( " * 11 + "shot one" + " )" * 11 + " : 0")

    def check_code(self, code, line, text, case=CASE):
        with self.assertRaises(BookError) as caught:
            parse_book(case, text)
        self.assertEqual((caught.exception.code, caught.exception.line), (code, line), text)
        self.assertIsInstance(caught.exception, CallError)

    def test_long(self):
        head = "day 0 : 0\n"
        self.assertEqual(len(parse_book(CASE, head + "#" * (6000 - len(head)))), 1)
        self.check_code("long", 0, head + "#" * (6001 - len(head)))
        self.check_code("long", 0, "wrong\n" * 1001)

    def test_form(self):
        for text in (
            "day", "day 0", "day 0 :", "day : 0", "day 0 0", "day 0 : 0 0", "day 0 : x", "day x : 0", "day 00 : 0",
            "day 0: 0", "Day 0 : 0", "days 0 : 0", "day -1 : 0", "day 0 : -1", "day 100000 : 0", "day 0 if : 0",
            "day 0 if shot one", "day 0 if shot one :", "day 0 if shot one 0", "day 0 if shot one : 0 0", "if",
            "day 0 if shot one : x", "day 0 when shot one : 0", "day if shot one : 0", "0 day if shot one : 0",
            "day 0 if shot : 0", "day 0 if shot One : 0", "day 0 if shot 1 : 0", "day 0 if one : 0", "day 0 if worked : 0",
            "day 0 if rains : 0", "day 0 if rains > : 0", "day 0 if rains > x : 0", "day 0 if rains 0 : 0",
            "day 0 if rains == 0 : 0", "day 0 if rain > 0 : 0", "day 0 if > 0 : 0", "day 0 if work > 0 : 0",
            "day 0 if shot one worked ann : 0", "day 0 if shot one and : 0", "day 0 if and shot one : 0",
            "day 0 if not : 0", "day 0 if shot one not : 0", "day 0 if ( shot one : 0", "day 0 if shot one ) : 0",
            "day 0 if ( ) : 0", "day 0 if ) shot one ( : 0", "day 0 if (shot one) : 0", "day 0 if shot one : : 0",
            "day 0 if shot one or or worked ann : 0", "day 0 if shot one foo : 0", "day 0 if foo shot one : 0",
            "day 0 : if shot one : 0", "foo day 0 : 0", "sheet 0 : 0",
        ):
            self.check_code("form", 0, text)
            self.check_code("form", 2, f"day 0 : 0\n# none\n{text}\nday 9 : 9")

    def test_unknown(self):
        self.check_code("unknown", 0, "day 0 if shot two : 0")
        self.check_code("unknown", 0, "day 0 if shot ann : 0")
        self.check_code("unknown", 0, "day 0 if worked one : 0")
        self.check_code("unknown", 1, "day 0 if shot one : 0\nday 0 if not ( shot one or worked ben ) : 0")
        self.check_code("unknown", 0, "day 0 if worked ben and shot one : 0")

    def test_day(self):
        self.check_code("day", 0, "day 3 : 0")
        self.check_code("day", 1, "day 2 : 0\nday 99999 if shot one : 0")

    def test_sheet(self):
        self.check_code("sheet", 0, "day 0 : 1")
        self.check_code("sheet", 0, "day 1 : 2")
        self.check_code("sheet", 1, "day 2 : 5\nday 2 if worked ann : 6")

    def test_many(self):
        line = "day 0 : 0\n"
        self.assertEqual(len(parse_book(CASE, line * 60)), 60)
        self.assertEqual(len(parse_book(CASE, "\n# a remark\n" + line * 60 + "  \n#\n")), 60)
        self.check_code("many", 60, line * 61)
        self.check_code("many", 61, line * 30 + "\n" + line * 32)

    def test_the_first_code_of_a_line(self):
        self.check_code("form", 0, "day 9 if shot two and : 9")
        self.check_code("unknown", 0, "day 9 if shot two : 9")
        self.check_code("day", 0, "day 9 if shot one : 9")
        for last, code in (
            ("day 0 if shot two : x", "form"), ("day 9 if shot two : 9", "unknown"), ("day 9 : 9", "day"),
            ("day 1 : 9", "sheet"), ("day 1 : 0", "many"),
        ):
            self.check_code(code, 60, "day 0 : 0\n" * 60 + last)

    def test_the_first_line(self):
        self.check_code("sheet", 1, "day 0 : 0\nday 0 : 9\nday 9 : 0\nwrong")
        self.check_code("day", 0, "day 9 : 0\nwrong\nday 0 : 9")


class PrintTest(unittest.TestCase):
    def test_lines(self):
        text = "day 2 if shot one : 5\nday 1 : 1\nday 0 if not worked ann : 0\nday 0 if lates != 3 : 0\n"
        self.assertEqual(print_book(CASE, parse_book(CASE, text)), text)
        self.assertEqual(print_book(CASE, ()), "")

    def test_parentheses_only_where_they_are_needed(self):
        for text, wanted in (
            ("( shot one )", "shot one"),
            ("( not ( shot one ) )", "not shot one"),
            ("not ( shot one and worked ann )", "not ( shot one and worked ann )"),
            ("( shot one and worked ann ) and ills = 0", "shot one and worked ann and ills = 0"),
            ("shot one and ( worked ann and ills = 0 )", "shot one and ( worked ann and ills = 0 )"),
            ("( shot one and worked ann ) or ills = 0", "shot one and worked ann or ills = 0"),
            ("shot one and ( worked ann or ills = 0 )", "shot one and ( worked ann or ills = 0 )"),
            ("shot one or ( worked ann or ills = 0 )", "shot one or ( worked ann or ills = 0 )"),
            ("shot one then ( worked ann then ills = 0 )", "shot one then worked ann then ills = 0"),
            ("( shot one then worked ann ) then ills = 0", "( shot one then worked ann ) then ills = 0"),
            ("( shot one or worked ann ) then ills = 0", "shot one or worked ann then ills = 0"),
        ):
            book = parse_book(CASE, f"day 1 if {text} : 1")
            self.assertEqual(print_book(CASE, book), f"day 1 if {wanted} : 1\n")

    def test_what_is_printed_gives_the_book_back(self):
        atoms = (A, B, C, ("shot", 1), ("worked", 1), ("used", 1, "<=", 3), ("used", 2, "!=", 99999))
        source = random.Random(11)
        trees = list(atoms)
        for _ in range(300):
            word = source.choice(("not", "and", "or", "then"))
            tree = (word, source.choice(trees)) if word == "not" else (word, source.choice(trees), source.choice(trees))
            if len(str(tree)) < 300:
                trees.append(tree)
        for test, number in itertools.product(trees, (0, 1)):
            book = ((1, test, number), (0, None, 0))
            text = print_book(CASE, book)
            self.assertEqual(parse_book(CASE, text), book)
            self.assertNotIn("  ", text)
            # One pair of parentheses less, and the text has another meaning.
            words = text.split("\n")[0].split(" ")
            for at in [k for k, word in enumerate(words) if word == "("]:
                depth = 0
                for end in range(at, len(words)):
                    depth += (words[end] == "(") - (words[end] == ")")
                    if depth == 0:
                        break
                less = words[:at] + words[at + 1:end] + words[end + 1:]
                self.assertNotEqual(parse_book(CASE, " ".join(less)), book[:1])

    def test_arguments_stay_as_they_were(self):
        book = parse_book(CASE, "day 2 if shot one or worked ann : 5\nday 1 : 1")
        kept = repr((CASE, book))
        print_book(CASE, book)
        self.assertEqual(repr((CASE, book)), kept)


if __name__ == "__main__":
    unittest.main()
