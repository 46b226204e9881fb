"""Points 1.3 and 0.2 (e), the reading: what is written is read back, and NoText for all other texts."""

import ast
import inspect
import random
import unittest
from itertools import product

from treeclock.errors import NoClock, NoText, NotApart
from treeclock.reading import read
from treeclock.trees import is_clock, plain_count, plain_part
from treeclock.writing import written
from tests.answers import Answers
from tests.samples import (
    DEEP_COUNTS, DEEP_PARTS, NOT_PLAIN_COUNTS, NOT_PLAIN_PARTS, PLAIN_COUNTS, PLAIN_PARTS,
    deep_count, deep_part, drawn_count, drawn_part, text_of,
)

TEXTS = (
    ("1 0", (1, 0)),
    ("0 0", (0, 0)),
    ("0 1", (0, 1)),
    ("1 9", (1, 9)),
    ("1 10", (1, 10)),
    ("1 907", (1, 907)),
    ("(0,1) 0", ((0, 1), 0)),
    ("(1,0) (0,1,0)", ((1, 0), (0, 1, 0))),
    ("0 (12,0,345)", (0, (12, 0, 345))),
    ("((0,1),(1,0)) (2,(0,10,0),3)", (((0, 1), (1, 0)), (2, (0, 10, 0), 3))),
    ("(1,(0,(1,0))) (0,0,(100,(0,7,0),0))", ((1, (0, (1, 0))), (0, 0, (100, (0, 7, 0), 0)))),
)

# From the blank to ~, tabs and row's ends.
SIGNS = "".join(chr(number) for number in range(ord(" "), ord("~") + 1)) + "\t\n\r"


def clock_written_as(text):
    """The clock of that writing, or None: found by Python's own reader and by written."""
    halves = text.split(" ")
    if len(halves) != 2 or not all(half and set(half) <= set("0123456789(),") for half in halves):
        return None
    try:
        clock = tuple(ast.literal_eval(half) for half in halves)
    except (SyntaxError, ValueError):
        return None
    return clock if is_clock(clock) and written(clock) == text else None


def texts_beside(text):
    """All texts that are one sign away, and those with two neighbours changed about."""
    for place in range(len(text) + 1):
        yield text[:place] + text[place + 1:]
        yield text[:place] + text[place:place + 2][::-1] + text[place + 2:]
        for sign in SIGNS:
            yield text[:place] + sign + text[place:]
            yield text[:place] + sign + text[place + 1:]


class Read(Answers):
    def assert_read(self, clock):
        text = written(clock)
        with self.subTest(text=text[:80]):
            # Some are too long for repr, so they are only compared.
            self.assertTrue(read(text) == clock)
            self.assertIs(is_clock(read(text)), True)

    def test_arguments(self):
        self.assertEqual(list(inspect.signature(read).parameters), ["text"])

    def test_texts(self):
        for text, clock in TEXTS:
            self.assertEqual(repr(self.answer(read, text)), repr(clock))

    def test_samples(self):
        for part in PLAIN_PARTS:
            for count in PLAIN_COUNTS:
                self.assert_read((part, count))

    def test_deep_trees(self):
        for part in DEEP_PARTS:
            self.assert_read((part, 7))
            self.assert_read((part, DEEP_COUNTS[0]))
        for count in DEEP_COUNTS:
            self.assert_read((0, count))
            self.assert_read((DEEP_PARTS[0], count))

    def test_drawn_clocks(self):
        draw = random.Random(1)
        for depth in range(9):
            for turn in range(60):
                most = 10 ** draw.randrange(70)
                self.assert_read((plain_part(drawn_part(draw, depth)), plain_count(drawn_count(draw, depth, most))))

    def test_numbers_of_many_figures(self):
        for figures in (1, 2, 17, 18, 19, 59, 60, 61, 62, 119, 120, 121, 180, 999, 4299, 4300, 4301):
            for number in (10 ** figures - 1, 10 ** figures, 10 ** figures + 1, 10 ** figures + 10 ** (figures // 2)):
                self.assert_read((1, number))
                self.assert_read(((0, 1), (number, 0, (0, number, 0))))

    def test_numbers_longer_than_python_reads_at_once(self):
        self.assertTrue(read("1 1" + "0" * 5000) == (1, 10 ** 5000))
        self.assertTrue(read("0 (0," + "9" * 9001 + ",0)") == (0, (0, 10 ** 9001 - 1, 0)))

    def test_trees_deeper_than_calls_go(self):
        # A depth that no point bounds for texts; looked at step by step, as == goes no deeper than calls.
        depth = 20000
        part, count = read("(0," * depth + "1" + ")" * depth + " " + "(0," * depth + "1" + ",0)" * depth)
        for step in range(depth):
            self.assertEqual((part[0], count[0], count[2]), (0, 0, 0))
            part, count = part[1], count[1]
        self.assertEqual((part, count), (1, 1))


class ReadOfNoText(Answers):
    def refuse(self, text):
        self.assert_refused(NoText, read, text)

    def assert_told_right(self, text):
        """As clock_written_as tells; without subTest, since there are very many."""
        clock = clock_written_as(text)
        try:
            told = read(text)
        except NoText:
            told = None
        self.assertEqual(repr(told), repr(clock), text)
        return clock is None

    def test_the_measure(self):
        for text, clock in TEXTS:
            self.assertEqual(clock_written_as(text), clock)
        for text in ("", " ", "1", "1 01", "1  0", "(0,0) 0", "1 (0,1,1)", "((0,1)) 0", "(0,1,) 0", "1 0\n"):
            self.assertIsNone(clock_written_as(text))

    def test_named_by_the_document(self):
        for text in (
            "", " ", "\n", "\t", "1", "0", "1 ", " 0", "10", "1,0", "1\t0", "1\n0", "1  0", " 1 0", "1 0 ", "1 0\n", "\n1 0",
            "1 00", "1 01", "1 007", "00 0", "01 0", "1 (0,01,0)", "1 (00,1,0)", "1 0\r\n", "1 0\t", "1 0 0", "1 0 1 0",
        ):
            self.refuse(text)

    def test_numbers_that_python_would_take(self):
        for number in ("+1", "-1", "-0", "+0", "1_0", "0x1", "0b1", "1.0", "1.", "1e3", "1j", "True", "None", "'1'", "1L", "~1"):
            self.refuse("1 " + number)
            self.refuse(number + " 0")
            self.refuse("1 (0," + number + ",0)")
            self.refuse("1 (" + number + ",1,0)")
            self.refuse("(" + number + ",0) 0")

    def test_numbers_that_are_no_parts(self):
        for text in ("2 0", "9 0", "10 0", "11 0", "(0,2) 0", "(2,1) 0", "(10,0) 0", "((0,1),3) 0", "(0,(1,11)) 0"):
            self.refuse(text)

    def test_trees_of_the_other_kind(self):
        for text in ("(0,1,0) 0", "1 (0,1)", "(0,1) (0,1)", "(0,1,0) (0,1,0)", "(0,(0,1,0)) 0", "1 (0,(0,1),0)", "1 (0,0,(1,0))"):
            self.refuse(text)

    def test_tuples_of_other_lengths(self):
        for inner in ("", "0", "1", ",", "0,", ",0", "0,1,", ",0,1", "0,,1", "0,1,0,0", "0,0,0,1", "0,1,0,1,0"):
            self.refuse("(" + inner + ") 0")
            self.refuse("1 (" + inner + ")")
            self.refuse("(0,(" + inner + ")) 0")
            self.refuse("1 (0,(" + inner + "),0)")

    def test_a_tree_ahead_in_a_triple(self):
        for text in ("1 ((0,1,0),0,1)", "1 ((0,1,0),0,0)", "1 ((1),0,1)", "1 (0,((0,1,0),1,0),0)", "1 ((0,1),0,1)"):
            self.refuse(text)

    def test_brackets(self):
        for text in (
            "(1) 0", "((0,1)) 0", "1 (0)", "1 ((0,1,0))", "(0,1 0", "0,1) 0", "(0,1)) 0", "((0,1) 0", "() 0", "1 ()",
            "[0,1] 0", "{0,1} 0", "1 [0,1,0]", "(0,1)(0,1,0)", "1(0,1,0)", "(0,1)0", "(1 0)", "((0,1) (0,1,0))", ")( 0", "1 )",
            "(0 1) 0", "(0, 1) 0", "( 0,1) 0", "(0,1 ) 0", "1 (0, 1,0)", "(0;1) 0", "(0,1)1 0", "1 (0,1,0)0", "1(0,1) 0",
        ):
            self.refuse(text)

    def test_trees_that_are_not_plain(self):
        for part in NOT_PLAIN_PARTS:
            self.refuse(text_of(part) + " 0")
            for depth in (1, 2, 29, 30):
                self.refuse(text_of(deep_part(depth, part)) + " 0")
        for count in NOT_PLAIN_COUNTS:
            self.refuse("1 " + text_of(count))
            for depth in (1, 2, 29, 30):
                self.refuse("1 " + text_of(deep_count(depth, count)))

    def test_clocks_as_python_shows_them(self):
        for text, clock in TEXTS:
            self.refuse(repr(clock))
            self.refuse(text_of(clock))

    def test_several_clocks(self):
        for one, clock in TEXTS:
            for other, clock in TEXTS:
                for between in ("", " ", "\n", ","):
                    self.refuse(one + between + other)

    def test_pieces_of_a_text(self):
        refused = 0
        for text, clock in TEXTS:
            for start in range(len(text)):
                for end in range(start, len(text) + 1):
                    refused += self.assert_told_right(text[start:end])
        self.assertGreater(refused, 1000)

    def test_all_texts_a_sign_away(self):
        for text, clock in TEXTS:
            for beside in texts_beside(text):
                self.assert_told_right(beside)

    def test_all_short_texts(self):
        for length in range(7):
            for signs in product("012(), ", repeat=length):
                self.assert_told_right("".join(signs))

    def test_all_short_texts_with_a_pair(self):
        for signs in product("01(), ", repeat=5):
            self.assert_told_right("(0,1" + "".join(signs))
            self.assert_told_right("1 (0," + "".join(signs))

    def test_deep_texts_a_sign_away(self):
        draw = random.Random(2)
        for clock in ((DEEP_PARTS[0], DEEP_COUNTS[0]), (DEEP_PARTS[4], DEEP_COUNTS[1])):
            beside = list(texts_beside(written(clock)))
            for text in draw.sample(beside, 4000):
                self.assert_told_right(text)

    def test_large_numbers_with_a_sign_too_many(self):
        for figures in (59, 60, 61, 120, 4300, 5000):
            for place in (0, 1, figures // 2, figures - 1, figures):
                for sign in " \n\t_-+.(),a":
                    number = "7" * figures
                    with self.subTest(figures=figures, place=place, sign=sign), self.assertRaises(NoText):
                        read("1 " + number[:place] + sign + number[place:])
            with self.subTest(figures=figures), self.assertRaises(NoText):
                read("1 0" + "7" * figures)
            with self.subTest(figures=figures), self.assertRaises(NoText):
                read("1 " + "0" * figures)

    def test_more_brackets_than_calls_go_deep(self):
        many = 100000
        for text in (
            "(" * many, "1 " + "(" * many, ")" * many, "1 " + ")" * many, "(" * many + "1" + ")" * many + " 0",
            "(0," * many, "(0," * many + "1 0", "(0," * many + "1" + ")" * (many - 1) + " 0", "1 " + "(0," * many + "0",
            "(0," * many + "(1,1)" + ")" * many + " 0", "1 " + "(0," * many + "0" + ",0)" * many, "(" + "0," * many + "1) 0",
            "1 (" + "0," * many + "1)", " " * many, "1 0" + " " * many, "," * many, "1 " + "," * many,
        ):
            with self.subTest(text=text[:20]), self.assertRaises(NoText) as taken:
                read(text)
            self.assertNotIsInstance(taken.exception, (NoClock, NotApart))


if __name__ == "__main__":
    unittest.main()
