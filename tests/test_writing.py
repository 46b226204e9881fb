"""Point 1.3, the writing: the texts of clocks, and NoClock for what is none."""

import copy
import inspect
import unittest

from treeclock.errors import ClockError, NoClock, NoText, NotApart
from treeclock.writing import written
from tests.samples import NOTHING_OF_OURS, WRONG_COUNTS, WRONG_PARTS, deep_count, deep_part

TEXTS = (
    ((1, 0), "1 0"),
    ((0, 0), "0 0"),
    ((0, 1), "0 1"),
    ((1, 9), "1 9"),
    ((1, 10), "1 10"),
    ((1, 907), "1 907"),
    (((0, 1), 0), "(0,1) 0"),
    (((1, 0), (0, 1, 0)), "(1,0) (0,1,0)"),
    ((0, (12, 0, 345)), "0 (12,0,345)"),
    ((((0, 1), (1, 0)), (2, (0, 10, 0), 3)), "((0,1),(1,0)) (2,(0,10,0),3)"),
    (((1, (0, (1, 0))), (0, 0, (100, (0, 7, 0), 0))), "(1,(0,(1,0))) (0,0,(100,(0,7,0),0))"),
)


class Written(unittest.TestCase):
    def assert_written(self, clock, text):
        before = repr(clock)
        with self.subTest(text=text[:80]):
            self.assertIs(type(written(clock)), str)
            self.assertEqual(written(clock), text)
            self.assertEqual(repr(clock), before)

    def test_arguments(self):
        self.assertEqual(list(inspect.signature(written).parameters), ["clock"])

    def test_texts(self):
        for clock, text in TEXTS:
            self.assert_written(clock, text)

    def test_deep_parts(self):
        for depth in (1, 2, 29, 30, 31, 40):
            clock = (deep_part(depth, 1), 0)
            self.assert_written(clock, repr(clock[0]).replace(" ", "") + " 0")

    def test_deep_counts(self):
        for depth in (1, 2, 29, 30, 31, 40):
            clock = (1, deep_count(depth, 12345))
            self.assert_written(clock, "1 " + repr(clock[1]).replace(" ", ""))

    def test_thirty_steps_to_one_side(self):
        part = 1
        count = 25
        for step in range(30):
            part = (0, part)
            count = (10, count, 0)
        self.assert_written((part, count), "(0," * 30 + "1" + ")" * 30 + " " + "(10," * 30 + "25" + ",0)" * 30)

    def test_numbers_of_many_figures(self):
        for figures in (1, 2, 17, 18, 19, 59, 60, 61, 62, 119, 120, 121, 180, 999, 4000):
            for number in (10 ** figures - 1, 10 ** figures, 10 ** figures + 1, 10 ** figures + 10 ** (figures // 2)):
                self.assert_written((1, number), "1 " + str(number))
                self.assert_written((1, (number, 0, number)), "1 (" + str(number) + ",0," + str(number) + ")")

    def test_numbers_longer_than_python_writes_at_once(self):
        self.assertEqual(written((1, 10 ** 5000)), "1 1" + "0" * 5000)
        self.assertEqual(written((0, (0, 10 ** 9001 - 1, 0))), "0 (0," + "9" * 9001 + ",0)")


class WrittenOfNoClock(unittest.TestCase):
    def assert_refused(self, thing):
        before = copy.deepcopy(thing)
        with self.subTest(thing=thing):
            with self.assertRaises(NoClock) as taken:
                written(thing)
            self.assertNotIsInstance(taken.exception, (NoText, NotApart))
            self.assertEqual(repr(thing), repr(before))

    def test_taken_by_each_name_above(self):
        for thing in (None, (1, True), ((0, 0), 0), (1, (0, 0, 0))):
            for above in (NoClock, ClockError, ValueError):
                with self.subTest(thing=thing, above=above), self.assertRaises(above):
                    written(thing)

    def test_things_that_are_no_pair(self):
        for thing in NOTHING_OF_OURS + (0, 1, 7, (1, 0, 0), (1, 0, 0, 0), [(0, 1), 0], ((1, 0),), "1 0"):
            self.assert_refused(thing)

    def test_wrong_parts(self):
        for part in WRONG_PARTS:
            self.assert_refused((part, 0))
            self.assert_refused((deep_part(30, part, 1), (0, 1, 0)))

    def test_wrong_counts(self):
        for count in WRONG_COUNTS:
            self.assert_refused((1, count))
            self.assert_refused(((0, 1), deep_count(30, count, 2)))

    def test_a_negative_number_of_many_figures(self):
        with self.assertRaises(NoClock):
            written((1, -(10 ** 5000)))


if __name__ == "__main__":
    unittest.main()
