"""Point 1102: boards, and which ones hold."""

import itertools
import random
import unittest

from plain_courses import closing_cases, plain_notice
from small_cases import PAIR_TEXT, small_case

from callsheets.booktext import parse_book
from callsheets.calendars import parse_calendar
from callsheets.daybooks import choice, explore
from callsheets.errors import NoticeError
from callsheets.films import parse_film
from callsheets.notices import board, takes_board
from callsheets.stands import is_through, natures, step

FILM = parse_film(PAIR_TEXT)
BOTH = (600, (0, 1), (0,))
CASE = (FILM, parse_calendar(FILM, "day 400 1000\n" * 3), (), ((BOTH,),) * 3, (1, 0, 0, 20), ((0, ()),) * 2)
BOOK = parse_book(CASE, "day 0 : 0\nday 1 : 0\nday 2 : 0")
FIRST = (0, (), ((-1, 0), (-1, 0)), (0, 0, 0))
RAINED = (1, (0,), ((660, 1), (-1, 0)), (1, 0, 0))
BOARD = ((FIRST, (("on", "off", "off"), ("perhaps", "perhaps", "off"))), (RAINED, (("off", "off"), ("on", "off"))))
WORDS = ("on", "off", "perhaps")


def plain_board(case, book):
    told = []
    for stand in explore(case, book)[1]:
        if not is_through(case, stand):
            notices = [plain_notice(case, book, stand, actor) for actor in range(len(case[0][1]))]
            told.append((stand, tuple(tuple(row[0] for row in rows) for rows in notices)))
    return tuple(told)


def holds(case, book, told):
    """Return what point 1102 tells of a board of the right shape."""
    words_at = dict(told)
    for stand, words in told:
        for actor, triple in itertools.product(range(len(words)), natures(case, stand)):
            behind = step(case, stand, choice(book, stand), triple)[1]
            works = behind[2][actor] != (-1, 0)
            own, *later = words[actor]
            if own == "on" and not works or own == "off" and works:
                return False
            for place, word in enumerate(later):
                if word != "perhaps" and is_through(case, behind) and word != "off":
                    return False
                if word != "perhaps" and not is_through(case, behind) and words_at[behind][actor][place] != word:
                    return False
    return True


def with_word(told, at, actor, day, word):
    stand, words = told[at]
    row = words[actor][:day] + (word,) + words[actor][day + 1:]
    return told[:at] + ((stand, words[:actor] + (row,) + words[actor + 1:]),) + told[at + 1:]


def places_of(told):
    return [(at, actor, day) for at, (_, words) in enumerate(told)
            for actor, row in enumerate(words) for day in range(len(row))]


class BoardTest(unittest.TestCase):
    def test_what_is_told(self):
        self.assertEqual(board(CASE, BOOK), BOARD)
        self.assertIs(takes_board(CASE, BOOK, BOARD), True)

    def test_small_cases_against_all_courses(self):
        for case, book in closing_cases(range(400)):
            told = board(case, book)
            self.assertEqual(told, plain_board(case, book))
            self.assertTrue(holds(case, book, told))
            self.assertIs(takes_board(case, book, told), True)

    def test_without_actors(self):
        film = parse_film("place p inside\nscene a p any 60 :")
        case = (film, CASE[1], (), (((600, (0,), ()),),) * 3, (1, 0, 0, 20), ())
        self.assertEqual(board(case, BOOK), (((0, (), (), (0, 0, 0)), ()), ((1, (), (), (1, 0, 0)), ())))
        self.assertIs(takes_board(case, BOOK, board(case, BOOK)), True)

    def test_breaks(self):
        for number in range(30):
            case, book = small_case(number)
            if explore(case, book)[0] == "breaks":
                for call in (lambda: board(case, book), lambda: takes_board(case, book, ()), lambda: takes_board(case, book, BOARD)):
                    with self.assertRaises(NoticeError) as caught:
                        call()
                    self.assertEqual(caught.exception.code, "breaks")


class TakesBoardTest(unittest.TestCase):
    def test_one_word_taken_back(self):
        for at, actor, day in places_of(BOARD):
            for word in WORDS:
                told = with_word(BOARD, at, actor, day, word)
                wanted = told == BOARD or holds(CASE, BOOK, told)
                self.assertIs(takes_board(CASE, BOOK, told), wanted, told)
                # More than the board no board that holds tells.
                if word != "perhaps" and told != BOARD:
                    self.assertIs(takes_board(CASE, BOOK, told), False, told)

    def test_words_turned_into_perhaps(self):
        # At the first stand nothing is lost by it; behind it, the first stand's word would be taken back.
        self.assertIs(takes_board(CASE, BOOK, with_word(BOARD, 0, 0, 0, "perhaps")), True)
        self.assertIs(takes_board(CASE, BOOK, with_word(BOARD, 0, 0, 2, "perhaps")), True)
        self.assertIs(takes_board(CASE, BOOK, with_word(BOARD, 1, 1, 0, "perhaps")), True)
        self.assertIs(takes_board(CASE, BOOK, with_word(BOARD, 1, 0, 0, "perhaps")), False)
        self.assertIs(takes_board(CASE, BOOK, with_word(BOARD, 1, 1, 1, "perhaps")), False)
        both = with_word(with_word(BOARD, 1, 0, 0, "perhaps"), 0, 0, 1, "perhaps")
        self.assertIs(takes_board(CASE, BOOK, both), True)

    def test_all_perhaps(self):
        for case, book in closing_cases(range(150)):
            told = tuple((stand, tuple(("perhaps",) * len(row) for row in words)) for stand, words in board(case, book))
            self.assertIs(takes_board(case, book, told), True)

    def test_single_changes_of_small_cases(self):
        seen = [0, 0]
        for case, book in closing_cases(range(250)):
            told = board(case, book)
            for at, actor, day in places_of(told):
                for word in WORDS:
                    other = with_word(told, at, actor, day, word)
                    if other != told:
                        wanted = holds(case, book, other)
                        seen[wanted] += 1
                        self.assertIs(takes_board(case, book, other), wanted)
                        self.assertTrue(word == "perhaps" or not wanted)
        self.assertGreater(min(seen), 100)

    def test_many_changes_of_small_cases(self):
        source = random.Random(11)
        seen = [0, 0]
        for case, book in closing_cases(range(250)):
            real = board(case, book)
            for _ in range(10):
                told = real
                for at, actor, day in places_of(real):
                    if source.random() < 0.4:
                        word = "perhaps" if source.random() < 0.9 else source.choice(WORDS)
                        told = with_word(told, at, actor, day, word)
                wanted = holds(case, book, told)
                seen[wanted] += 1
                self.assertIs(takes_board(case, book, told), wanted)
                if wanted:
                    self.check_no_more(real, told)
        self.assertGreater(min(seen), 100)

    def check_no_more(self, real, told):
        """Each word of a board that holds is the word of the real one, or tells nothing."""
        for at, actor, day in places_of(told):
            word = told[at][1][actor][day]
            self.assertIn(word, ("perhaps", real[at][1][actor][day]))

    def test_other_shapes(self):
        for case, book in [(CASE, BOOK)] + closing_cases(range(60)):
            real = board(case, book)
            for at, (stand, words) in enumerate(real):
                others = [(stand, words[:-1]), (stand, words + words[:1]), (stand, tuple(row[:-1] for row in words)),
                          (stand, tuple(row + ("off",) for row in words)), (stand, words[:-1] + (words[-1] + ("off",),)),
                          (stand, ()), ((stand[0] + 1,) + stand[1:], words), (stand[:3] + ((3, 3, 3),), words),
                          (stand, (("never",) + words[0][1:],) + words[1:]), (stand, (("",) * len(words[0]),) + words[1:])]
                for other in others:
                    self.assertIs(takes_board(case, book, real[:at] + (other,) + real[at + 1:]), False, other)
                self.assertIs(takes_board(case, book, real[:at] + real[at + 1:]), False)
                self.assertIs(takes_board(case, book, real[:at + 1] + real[at:]), False)
            self.assertIs(takes_board(case, book, real[::-1]), len(real) < 2)
            done = [stand for stand in explore(case, book)[1] if is_through(case, stand)][0]
            rows = tuple(("off",) * (len(case[3]) - done[0]) for _ in case[0][1])
            self.assertIs(takes_board(case, book, tuple(sorted(real + ((done, rows),)))), False)

    def test_arguments_stay_as_they_were(self):
        for case, book in closing_cases(range(60)):
            told = board(case, book)
            kept = repr((case, book, told))
            takes_board(case, book, told)
            self.assertEqual(repr((case, book, told)), kept)


if __name__ == "__main__":
    unittest.main()
