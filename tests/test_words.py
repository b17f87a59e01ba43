"""Point 4: lines, remarks, words, names and numbers."""

import unittest

from callsheets.words import is_name, is_number, lines_of


class NamesTest(unittest.TestCase):
    def test_names(self):
        for text in ("a", "z", "a1", "a9z0", "abcdefghijkl", "a23456789012", "day", "n"):
            with self.subTest(text):
                self.assertIs(is_name(text), True)

    def test_what_is_no_name(self):
        for text in ("", "1", "1a", "A", "aB", "abcdefghijklm", "a2345678901234", "a_b", "a-b", "a.b",
                     "a b", " a", "a ", "a\n", "a\t", ":", "{", "`", "a{", "a`", "a:", "a/", "_a"):
            with self.subTest(text):
                self.assertIs(is_name(text), False)


class NumbersTest(unittest.TestCase):
    def test_numbers(self):
        for text in ("0", "1", "9", "10", "100", "12345", "99999", "10000"):
            with self.subTest(text):
                self.assertIs(is_number(text), True)

    def test_what_is_no_number(self):
        for text in ("", "00", "01", "012", "100000", "123456", "-1", "+1", "1.0", "1a", "a", "1 ", " 1",
                     "1\n", "1_0", ":", "/", "1:", "1/"):
            with self.subTest(text):
                self.assertIs(is_number(text), False)


class LinesTest(unittest.TestCase):
    def test_text_is_cut_at_newlines(self):
        self.assertEqual(lines_of("a b\nc"), [["a", "b"], ["c"]])

    def test_all_lines_are_told(self):
        self.assertEqual(lines_of(""), [[]])
        self.assertEqual(lines_of("\n"), [[], []])
        self.assertEqual(lines_of("a\n"), [["a"], []])
        self.assertEqual(lines_of("\n\na\n   \nb"), [[], [], ["a"], [], ["b"]])

    def test_several_spaces(self):
        self.assertEqual(lines_of("  a   b  "), [["a", "b"]])

    def test_remarks_are_left_out(self):
        self.assertEqual(lines_of("# x\na # b\na#b # c\nd"), [[], ["a"], ["a"], ["d"]])

    def test_remark_ends_with_its_line(self):
        self.assertEqual(lines_of("#\na"), [[], ["a"]])

    def test_only_spaces_stand_between_words(self):
        self.assertEqual(lines_of("a\tb c\r\n\t"), [["a\tb", "c\r"], ["\t"]])

    def test_only_newlines_stand_between_lines(self):
        self.assertEqual(lines_of("a\rb\x0bc\x0cd\x1ce"), [["a\rb\x0bc\x0cd\x1ce"]])

    def test_signs_of_any_kind_are_words(self):
        self.assertEqual(lines_of(": / <= A 00"), [[":", "/", "<=", "A", "00"]])

    def test_lists_are_new_at_each_call(self):
        first = lines_of("a b")
        first[0].append("c")
        first.append([])
        self.assertEqual(lines_of("a b"), [["a", "b"]])


if __name__ == "__main__":
    unittest.main()
