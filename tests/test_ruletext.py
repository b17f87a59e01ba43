"""Points 402 and 403: the texts of rules and conditions."""

import unittest

from callsheets.errors import RuleError
from callsheets.films import parse_film
from callsheets.rules import FIGURES
from callsheets.ruletext import parse_rules, print_condition, print_rules

FILM = parse_film("place hut inside\nactor ann\nactor ben minor\nscene s hut any 5 : ann")
A = ("is", "call", "<", 1)
B = ("is", "wrap", "<=", 2)
C = ("is", "span", ">", 3)
D = ("is", "work", ">=", 4)
WORDS = {"a": "call < 1", "b": "wrap <= 2", "c": "span > 3", "d": "work >= 4"}
SIGNS = ("<", "<=", ">", ">=", "=", "!=")


def spelled(text):
    """Return a text in which a, b, c and d stand for atoms, with the words of these."""
    return " ".join(WORDS.get(word, word) for word in text.split())


def condition(text):
    """Return the condition of a text in which a, b, c and d stand for atoms."""
    return parse_rules(FILM, "rule x all : " + spelled(text))[0][2]


def fault(text):
    """Return the code and the line of the error of a text, or None if it has none."""
    try:
        parse_rules(FILM, text)
    except RuleError as error:
        return error.code, error.line
    return None


def trees(size):
    """Return all conditions with so many words other than those of their atoms."""
    if size == 0:
        return [A]
    told = [("not", tree) for tree in trees(size - 1)]
    for left in range(size):
        for first in trees(left):
            for second in trees(size - 1 - left):
                told += [(word, first, second) for word in ("and", "or", "then")]
    return told


class ConditionsTest(unittest.TestCase):
    def test_each_figure_and_each_sign(self):
        for figure in FIGURES:
            for sign in SIGNS:
                rules = parse_rules(FILM, "rule x all : {} {} 7".format(figure, sign))
                self.assertEqual(repr(rules), repr((("x", -1, ("is", figure, sign, 7)),)))

    def test_numbers_at_their_edges(self):
        for number in (0, 1, 99999):
            self.assertEqual(parse_rules(FILM, "rule x all : row = {}".format(number))[0][2][3], number)

    def test_each_word(self):
        self.assertEqual(condition("a"), A)
        self.assertEqual(condition("not a"), ("not", A))
        self.assertEqual(condition("a and b"), ("and", A, B))
        self.assertEqual(condition("a or b"), ("or", A, B))
        self.assertEqual(condition("a then b"), ("then", A, B))

    def test_how_strongly_words_bind(self):
        for text, tree in (
            ("not a and b", ("and", ("not", A), B)),
            ("a and not b", ("and", A, ("not", B))),
            ("not a or b", ("or", ("not", A), B)),
            ("not a then b", ("then", ("not", A), B)),
            ("not not a", ("not", ("not", A))),
            ("a and b or c", ("or", ("and", A, B), C)),
            ("a or b and c", ("or", A, ("and", B, C))),
            ("a and b then c", ("then", ("and", A, B), C)),
            ("a then b and c", ("then", A, ("and", B, C))),
            ("a or b then c", ("then", ("or", A, B), C)),
            ("a then b or c", ("then", A, ("or", B, C))),
            ("a or b and c then d", ("then", ("or", A, ("and", B, C)), D)),
            ("a then b or c and not d", ("then", A, ("or", B, ("and", C, ("not", D))))),
        ):
            with self.subTest(text):
                self.assertEqual(condition(text), tree)

    def test_how_words_associate(self):
        self.assertEqual(condition("a and b and c"), ("and", ("and", A, B), C))
        self.assertEqual(condition("a or b or c"), ("or", ("or", A, B), C))
        self.assertEqual(condition("a then b then c"), ("then", A, ("then", B, C)))
        self.assertEqual(condition("a and b and c and d"), ("and", ("and", ("and", A, B), C), D))
        self.assertEqual(condition("a or b and c or d"), ("or", ("or", A, ("and", B, C)), D))
        self.assertEqual(condition("a then b then c then d"), ("then", A, ("then", B, ("then", C, D))))

    def test_parentheses(self):
        for text, tree in (
            ("( a or b ) and c", ("and", ("or", A, B), C)),
            ("a and ( b or c )", ("and", A, ("or", B, C))),
            ("a and ( b and c )", ("and", A, ("and", B, C))),
            ("a or ( b or c )", ("or", A, ("or", B, C))),
            ("( a then b ) then c", ("then", ("then", A, B), C)),
            ("( a then b ) and ( c then d )", ("and", ("then", A, B), ("then", C, D))),
            ("not ( a and b )", ("not", ("and", A, B))),
            ("not ( not ( a or b ) then c )", ("not", ("then", ("not", ("or", A, B)), C))),
        ):
            with self.subTest(text):
                self.assertEqual(condition(text), tree)

    def test_needless_parentheses(self):
        self.assertEqual(condition("( a )"), A)
        self.assertEqual(condition("( ( ( a ) ) )"), A)
        self.assertEqual(condition("not ( a )"), ("not", A))
        self.assertEqual(condition("( not a )"), ("not", A))
        self.assertEqual(condition("( a ) and ( ( b ) )"), ("and", A, B))
        self.assertEqual(condition("( a and b ) and c"), ("and", ("and", A, B), C))
        self.assertEqual(condition("a then ( b then c )"), ("then", A, ("then", B, C)))
        self.assertEqual(condition("( ( a and b ) or ( c and d ) )"), ("or", ("and", A, B), ("and", C, D)))

    def test_what_is_no_condition(self):
        for text in (
            "", "and", "not", "(", ")", "( )", "a b", "a and", "and a", "a and and b", "a or then b", "a not",
            "a not b", "a and ( b", "a and b )", ") a (", "( a ) ( b )", "( a ) b", "a ( b )", "( a", "a )",
            "( a and b ) ( c or d )", "( a ) ) and ( ( b )", "( ( a ) ) ( ( b ) )", "not ( )", "( not )", "( ) and a",
            "( a and ) b", "( and a )", "not and a", "then", "a then", "a ) and ( b", "( a or b ) not ( c )",
            "call", "call <", "call 1", "< 1", "call < call", "call < -1", "call < 01", "call < 100000", "call == 1",
            "call <> 1", "call => 1", "call =< 1", "call ! 1", "Call < 1", "calls < 1", "hut < 1", "call < 1 < 2",
            "1 < call", "call < x", "call <1", "call<1", "(a)", "(call < 1)", "not( a )", "a And b", "a && b",
            "not ) a (", "not ( a", "not a )", "not ( ) a", "( not ) a", "( a (", "( a not", "( ) a and b", "a ( ) and b",
            "a and ( ) b", "a and b ( )", "( a ( ) ) or b", "a and not", "not a and ) b (", "a b and )", "( and a b",
            "a xor b", "is call < 1", "call ( < 1 )", "call < ( 1 )", "a , b", "a : b", "a and and", "or or or",
        ):
            with self.subTest(text):
                self.assertEqual(fault("rule x all : " + spelled(text)), ("form", 0))

    def test_number_of_atoms(self):
        for word in ("and", "or", "then"):
            many = (" " + word + " ").join(["row = 1"] * 20)
            self.assertEqual(fault("rule x all : " + many), None)
            self.assertEqual(fault("rule x all : " + many + " " + word + " row = 1"), ("form", 0))
        mixed = " and ".join(["( row = 1 or row = 2 )"] * 10)
        self.assertEqual(fault("rule x all : " + mixed), None)
        self.assertEqual(fault("rule x all : row = 1 then " + mixed), ("form", 0))

    def test_number_of_not(self):
        self.assertEqual(fault("rule x all : " + "not " * 20 + "row = 1"), None)
        self.assertEqual(fault("rule x all : " + "not " * 21 + "row = 1"), ("form", 0))
        pairs = " or ".join(["not not row = 1"] * 10)
        self.assertEqual(fault("rule x all : " + pairs), None)
        self.assertEqual(fault("rule x all : " + pairs + " or not row = 1"), ("form", 0))
        self.assertEqual(fault("rule x all : " + pairs + " or row = 1"), None)

    def test_depth_of_parentheses(self):
        for depth, expected in ((10, None), (11, ("form", 0))):
            self.assertEqual(fault("rule x all : " + "( " * depth + "row = 1" + " )" * depth), expected)
            text = "row = 1 and " + "( row = 1 or " * depth + "row = 1" + " )" * depth
            self.assertEqual(fault("rule x all : " + text), expected)
            self.assertEqual(fault("rule x all : " + "not ( " * depth + "row = 1" + " )" * depth), expected)

    def test_many_parentheses_that_are_not_deep(self):
        self.assertEqual(fault("rule x all : " + " or ".join(["( ( row = 1 ) )"] * 20)), None)
        nested = "( " * 10 + "row = 1" + " )" * 10
        self.assertEqual(fault("rule x all : " + nested + " and " + nested), None)
        self.assertEqual(fault("rule x all : " + nested + " and ( " + nested + " )"), ("form", 0))
        self.assertEqual(fault("rule x all : ( " + nested + " ) and row = 1"), ("form", 0))

    def test_limits_are_for_each_rule(self):
        line = " all : " + " and ".join(["not row = 1"] * 20) + "\n"
        self.assertEqual(fault("rule a" + line + "rule b" + line + "rule c" + line), None)

    def test_texts_far_beyond_the_limits(self):
        for text in ("( " * 2900, "not " * 1400, "and " * 1400, "row = 1 then " * 450, ") " * 2900, "( ) " * 1400,
                     "( " * 1400 + "row = 1" + " )" * 1400, "not " * 1400 + "row = 1", "row = 1 then " * 450 + "row = 1",
                     "( row = 1 ) " * 400, "row = 1 " * 700):
            self.assertEqual(fault("rule x all : " + text), ("form", 0))


class ParseRulesTest(unittest.TestCase):
    def test_no_rules(self):
        for text in ("", "\n\n", "# rule x all : row = 1"):
            self.assertEqual(parse_rules(FILM, text), ())

    def test_who(self):
        text = "rule a all : row = 1\nrule b minors : row = 2\nrule c ben : row = 3\nrule d ann : row = 4"
        self.assertEqual(parse_rules(FILM, text), (
            ("a", -1, ("is", "row", "=", 1)),
            ("b", -2, ("is", "row", "=", 2)),
            ("c", 1, ("is", "row", "=", 3)),
            ("d", 0, ("is", "row", "=", 4)),
        ))
        self.assertEqual(parse_rules(FILM, text + "\n"), parse_rules(FILM, text))

    def test_order_of_the_text_spaces_and_remarks(self):
        text = "# rules\n\n  rule   z   all  :   row  =  1   and row = 2 # or row = 3\n\nrule a all : rest != 0#x\n"
        self.assertEqual(parse_rules(FILM, text), (
            ("z", -1, ("and", ("is", "row", "=", 1), ("is", "row", "=", 2))),
            ("a", -1, ("is", "rest", "!=", 0)),
        ))

    def test_words_of_the_forms_may_be_names(self):
        text = "rule all all : row = 1\nrule minors all : row = 1\nrule not ann : row = 1\nrule rule ben : row = 1"
        self.assertEqual([rule[0] for rule in parse_rules(FILM, text)], ["all", "minors", "not", "rule"])

    def test_form(self):
        for line in (
            "foo", "rule", "rule x", "rule x all", "rule x all :", "rule x : row = 1", "rule x all row = 1",
            "rule x all: row = 1", "rule x all : row", "Rule x all : row = 1", "rule X all : row = 1",
            "rule x All : row = 1", "rule x 1 : row = 1", "rule 1 all : row = 1", "rule x all : : row = 1",
            "rule x ann ben : row = 1", "rules x all : row = 1", "rule abcdefghijklm all : row = 1",
            "rule x abcdefghijklm : row = 1", "x all : row = 1", "rule x all ( row = 1 )", "\trule x all : row = 1",
            "rule x all : row\t= 1", "rule x all : row = 1\r",
        ):
            with self.subTest(line):
                self.assertEqual(fault(line), ("form", 0))
                self.assertEqual(fault("# a\n\nrule y all : row = 1\n" + line + "\n"), ("form", 3))

    def test_long(self):
        text = "rule x all : row = 1\n"
        self.assertEqual(fault(text + "#" * (6000 - len(text))), None)
        self.assertEqual(fault(text + "#" * (6001 - len(text))), ("long", 0))
        self.assertEqual(fault("\n" * 6001), ("long", 0))
        self.assertEqual(fault("\nfoo" + " " * 6000), ("long", 0))

    def test_twice(self):
        self.assertEqual(fault("rule x all : row = 1\n\nrule x ann : rest = 2"), ("twice", 2))
        self.assertEqual(fault("rule x all : row = 1\nrule y all : row = 1\nrule x all : row = 1"), ("twice", 2))

    def test_many(self):
        twelve = "".join("rule r{} all : row = {}\n".format(k, k) for k in range(12))
        self.assertEqual(len(parse_rules(FILM, twelve)), 12)
        self.assertEqual(fault(twelve + "\nrule r12 all : row = 12"), ("many", 13))

    def test_unknown(self):
        self.assertEqual(fault("rule x cid : row = 1"), ("unknown", 0))
        self.assertEqual(fault("rule a ann : row = 1\nrule x hut : row = 1"), ("unknown", 1))
        self.assertEqual(fault("rule x s : row = 1"), ("unknown", 0))
        self.assertEqual(fault("rule x minor : row = 1"), ("unknown", 0))

    def test_order_of_the_errors_of_a_line(self):
        twelve = "".join("rule r{} all : row = {}\n".format(k, k) for k in range(12))
        self.assertEqual(fault("rule x all : row = 1\nrule x cid : row"), ("form", 1))
        self.assertEqual(fault(twelve + "rule r3 cid : row ="), ("form", 12))
        self.assertEqual(fault(twelve + "rule r3 all : row = 1"), ("twice", 12))
        self.assertEqual(fault("rule x all : row = 1\nrule x cid : row = 1"), ("twice", 1))
        self.assertEqual(fault(twelve + "rule r12 cid : row = 1"), ("many", 12))
        self.assertEqual(fault("rule x cid : row"), ("form", 0))

    def test_first_line_that_has_an_error(self):
        self.assertEqual(fault("rule a cid : row = 1\nfoo"), ("unknown", 0))
        self.assertEqual(fault("rule a ann : row = 1\nrule a ann : row = 1\nfoo\n"), ("twice", 1))

    def test_after_an_error_nothing_is_left(self):
        self.assertEqual(fault("rule x all : row = 1\nrule x all : row = 1"), ("twice", 1))
        self.assertEqual(len(parse_rules(FILM, "rule x all : row = 1")), 1)


class PrintTest(unittest.TestCase):
    def test_print_condition(self):
        for text in (
            "a", "not a", "not not a", "a and b", "a and b and c", "a or b or c", "a then b then c", "a and b or c",
            "a or b and c", "a then b or c and not d", "not a and b", "( a or b ) and c", "a and ( b or c )",
            "a and ( b and c )", "a or ( b or c )", "( a then b ) then c", "not ( a and b )", "not ( a or b )",
            "not ( a then b )", "( a then b ) and ( c then d )", "( a then b ) or c", "a or ( b then c )",
            "not ( not ( a or b ) then c )", "not not ( a and b )", "a or b then c and d",
        ):
            with self.subTest(text):
                self.assertEqual(print_condition(condition(text)), spelled(text))

    def test_needless_parentheses_are_left_out(self):
        for text, least in (
            ("( a )", "a"), ("( ( a ) )", "a"), ("not ( a )", "not a"), ("( not a ) and b", "not a and b"),
            ("a and ( not b )", "a and not b"), ("not ( not a )", "not not a"), ("( a and b ) and c", "a and b and c"),
            ("( a or b ) or c", "a or b or c"), ("a then ( b then c )", "a then b then c"),
            ("( a and b ) or ( c and d )", "a and b or c and d"), ("( a or b ) then ( c or d )", "a or b then c or d"),
            ("( ( a or b ) and ( c ) )", "( a or b ) and c"),
        ):
            with self.subTest(text):
                self.assertEqual(print_condition(condition(text)), spelled(least))

    def test_all_small_conditions(self):
        for tree in [tree for size in range(4) for tree in trees(size)]:
            words = print_condition(tree).split(" ")
            self.assertEqual(parse_rules(FILM, "rule x all : " + " ".join(words))[0][2], tree)
            for fewer in self.without_parentheses(words):
                text = "rule x all : " + " ".join(fewer)
                self.assertTrue(fault(text) or parse_rules(FILM, text)[0][2] != tree, words)

    def without_parentheses(self, words):
        """Yield the words without one pair of parentheses, for each pair."""
        starts = []
        for end, word in enumerate(words):
            if word == "(":
                starts.append(end)
            if word == ")":
                start = starts.pop()
                yield words[:start] + words[start + 1:end] + words[end + 1:]

    def test_print_rules(self):
        text = (
            "rule  b all : ( row = 1 )\n# x\nrule a minors : ( row <= 0 or rest > 99999 ) and not ( dark != 3 )\n"
            "rule c ben : stretch < 300 then ( scenes >= 2 then call = 0 )"
        )
        rules = parse_rules(FILM, text)
        printed = (
            "rule b all : row = 1\nrule a minors : ( row <= 0 or rest > 99999 ) and not dark != 3\n"
            "rule c ben : stretch < 300 then scenes >= 2 then call = 0\n"
        )
        self.assertEqual(print_rules(FILM, rules), printed)
        self.assertEqual(repr(parse_rules(FILM, printed)), repr(rules))

    def test_print_no_rules(self):
        self.assertEqual(print_rules(FILM, ()), "")

    def test_largest_rules(self):
        text = "".join(
            "rule r{} ann : ".format(k) + " or ".join(["not work != {}".format(n) for n in range(20)]) + "\n"
            for k in range(12)
        )
        rules = parse_rules(FILM, text)
        self.assertEqual(print_rules(FILM, rules), text)

    def test_arguments_stay_as_they_were(self):
        rules = parse_rules(FILM, "rule x all : not ( row = 1 and row = 2 )")
        before = repr((FILM, rules))
        print_rules(FILM, rules)
        print_condition(rules[0][2])
        self.assertEqual(repr((FILM, rules)), before)


if __name__ == "__main__":
    unittest.main()
