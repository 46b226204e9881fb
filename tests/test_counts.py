"""Point 3.1: which count is at most which, the highest of two, and counts raised within a part."""

import inspect
import random
import unittest

from treeclock.counts import highest, is_at_most, raised
from treeclock.errors import NotApart
from treeclock.trees import is_count, is_part, plain_count, plain_part
from tests.answers import Answers
from tests.samples import (
    DEEP_COUNTS, DEEP_PARTS, NOT_PLAIN_COUNTS, NOT_PLAIN_PARTS, PLAIN_COUNTS, PLAIN_PARTS,
    all_counts, all_parts, deep_count, deep_part, drawn_count, drawn_part, rest_of, rows_told, sided_count, sided_part,
)

SMALL_COUNTS = tuple(tree for tree in all_counts(1, (0, 1, 2)) + [
    (0, (0, 0, 1), 0), (0, (0, 1, 0), 1), (1, 0, (0, 0, 2)), (0, 2, (0, 1, 0)), (0, (0, 1, 0), (0, 0, 1)), (2, (1, 0, 1), 0),
] if is_count(tree))
SMALL_PARTS = tuple(tree for tree in all_parts(2) if is_part(tree) and tree != 0)


def lifted_by(count, number):
    return count + number if isinstance(count, int) else (count[0] + number,) + count[1:]


class IsAtMost(Answers):
    def assert_at_most(self, one, other, whether):
        self.assertIs(self.answer(is_at_most, one, other), whether)

    def assert_told_right(self, one, other):
        self.assert_at_most(one, other, all(row[0] <= row[1] for row in rows_told(one, other)))
        self.assert_at_most(other, one, all(row[0] >= row[1] for row in rows_told(one, other)))

    def test_arguments(self):
        for function in (is_at_most, highest):
            self.assertEqual(list(inspect.signature(function).parameters), ["one", "other"])

    def test_numbers(self):
        self.assert_at_most(0, 0, True)
        self.assert_at_most(0, 1, True)
        self.assert_at_most(1, 0, False)
        self.assert_at_most(9, 10, True)
        self.assert_at_most(10 ** 40, 10 ** 40, True)
        self.assert_at_most(10 ** 40 + 1, 10 ** 40, False)

    def test_a_number_and_a_tree(self):
        self.assert_at_most(2, (2, 0, 5), True)
        self.assert_at_most(3, (2, 0, 5), False)
        self.assert_at_most((2, 0, 5), 7, True)
        self.assert_at_most((2, 0, 5), 6, False)
        self.assert_at_most((0, (0, 0, 3), 0), 3, True)
        self.assert_at_most((0, (0, 0, 3), 0), 2, False)

    def test_trees(self):
        self.assert_at_most((0, 1, 0), (0, 0, 1), False)
        self.assert_at_most((0, 0, 1), (0, 1, 0), False)
        self.assert_at_most((0, 1, 0), (1, 0, 1), True)
        self.assert_at_most((1, 0, 1), (1, (1, 0, 1), 0), False)
        self.assert_at_most((1, 0, 1), (1, (1, 0, 1), 1), True)
        self.assert_at_most((1, 0, 1), (1, 1, (1, 0, 1)), True)
        self.assert_at_most((0, 3, (1, 0, 1)), (1, 2, (0, 0, 1)), True)

    def test_trees_that_are_not_plain(self):
        self.assert_at_most((0, 1, 1), 1, True)
        self.assert_at_most(1, (0, 1, 1), True)
        self.assert_at_most(2, (0, 1, 1), False)
        self.assert_at_most((3, 0, 0), (0, 3, (0, 3, 3)), True)
        self.assert_at_most((0, (0, 0, 0), 0), 0, True)

    def test_deep_trees(self):
        for count in DEEP_COUNTS:
            self.assert_at_most(count, count, True)
            self.assert_at_most(0, count, True)
            self.assert_at_most(count, 0, False)
            self.assert_at_most(count, lifted_by(count, 1), True)
            self.assert_at_most(lifted_by(count, 1), count, False)
            self.assert_told_right(count, DEEP_COUNTS[0])

    def test_one_small_stretch_counts_more(self):
        for depth in (29, 30, 31, 40):
            self.assert_at_most(deep_count(depth, 7), deep_count(depth, 8), True)
            self.assert_at_most(deep_count(depth, 8), deep_count(depth, 7), False)
            self.assert_at_most(deep_count(depth, (7, 0, 1)), deep_count(depth, 7), False)
            for side in (0, 1):
                self.assert_at_most(sided_count(depth, side), depth + 1, True)
                self.assert_at_most(sided_count(depth, side), depth, False)
                self.assert_at_most(1, sided_count(depth, side), True)
                self.assert_at_most(2, sided_count(depth, side), False)

    def test_all_pairs_of_small_trees(self):
        for one in SMALL_COUNTS + PLAIN_COUNTS + NOT_PLAIN_COUNTS:
            for other in SMALL_COUNTS + PLAIN_COUNTS + NOT_PLAIN_COUNTS:
                self.assert_told_right(one, other)

    def test_drawn_trees(self):
        draw = random.Random(6)
        for turn in range(1500):
            one = drawn_count(draw, 4)
            self.assert_told_right(one, drawn_count(draw, 4))
            self.assert_told_right(one, lifted_by(drawn_count(draw, 4), 6))


class Highest(Answers):
    def assert_becomes(self, one, other, outcome):
        self.assertEqual(repr(self.answer(highest, one, other)), repr(outcome))
        self.assertEqual(repr(self.answer(highest, other, one)), repr(outcome))

    def assert_highest(self, one, other):
        outcome = self.answer(highest, one, other)
        with self.subTest(one=one, other=other):
            self.assertIs(is_count(outcome), True)
            self.assertTrue(all(row[2] == max(row[0], row[1]) for row in rows_told(one, other, outcome)))
            self.assertEqual(highest(other, one), outcome)
            self.assertEqual(highest(one, outcome), outcome)

    def test_numbers(self):
        self.assert_becomes(0, 0, 0)
        self.assert_becomes(3, 5, 5)
        self.assert_becomes(10 ** 40, 10 ** 40 + 1, 10 ** 40 + 1)

    def test_a_number_and_a_tree(self):
        self.assert_becomes(1, (2, 0, 5), (2, 0, 5))
        self.assert_becomes(4, (2, 0, 5), (4, 0, 3))
        self.assert_becomes(7, (2, 0, 5), 7)
        self.assert_becomes(1, (0, (0, 0, 3), 0), (1, (0, 0, 2), 0))

    def test_trees(self):
        self.assert_becomes((0, 1, 0), (0, 0, 1), 1)
        self.assert_becomes((0, 2, 0), (0, 0, 1), (1, 1, 0))
        self.assert_becomes((0, (0, 1, 0), 0), (0, 0, (0, 0, 1)), (0, (0, 1, 0), (0, 0, 1)))
        self.assert_becomes((0, (0, 1, 0), 1), (0, (0, 0, 1), 0), 1)
        self.assert_becomes((1, 0, (0, 0, 2)), (2, 1, 0), (2, 1, (0, 0, 1)))

    def test_trees_that_are_not_plain(self):
        self.assert_becomes((0, 1, 1), (0, 0, 0), 1)
        self.assert_becomes((3, 4, 5), 0, (7, 0, 1))
        self.assert_becomes((0, (0, 1, 1), 1), (0, (0, 0, 0), 2), (1, 0, 1))

    def test_all_pairs_of_small_trees(self):
        for one in SMALL_COUNTS + PLAIN_COUNTS + NOT_PLAIN_COUNTS:
            for other in SMALL_COUNTS + PLAIN_COUNTS + NOT_PLAIN_COUNTS:
                self.assert_highest(one, other)

    def test_deep_trees(self):
        for one in DEEP_COUNTS:
            self.assert_becomes(one, 0, one)
            self.assert_becomes(one, one, one)
            self.assert_becomes(one, 10 ** 80, 10 ** 80)
            for other in DEEP_COUNTS[:9] + (1, 3, (0, 5, 0)):
                self.assert_highest(one, other)

    def test_drawn_trees(self):
        draw = random.Random(7)
        for turn in range(1500):
            self.assert_highest(drawn_count(draw, 4), drawn_count(draw, 4))

    def test_any_order_and_as_often_as_one_likes(self):
        draw = random.Random(8)
        for turn in range(300):
            counts = [drawn_count(draw, 4) for number in range(5)]
            outcomes = []
            for order in range(4):
                outcome = 0
                for count in draw.sample(counts, 5) + draw.choices(counts, k=3):
                    outcome = highest(outcome, count) if draw.randrange(2) else highest(count, outcome)
                outcomes.append(outcome)
            outcomes.append(highest(highest(counts[0], counts[1]), highest(counts[2], highest(counts[3], counts[4]))))
            self.assertEqual(len(set(outcomes)), 1)


class Raised(Answers):
    def assert_raised(self, count, part):
        outcome = self.answer(raised, count, part)
        rows = rows_told(count, part, outcome)
        with self.subTest(count=count, part=part):
            self.assertIs(is_count(outcome), True)
            self.assertTrue(all(before == after for before, within, after in rows if not within))
            self.assertTrue(all(before <= after for before, within, after in rows if within))
            self.assertTrue(any(before < after for before, within, after in rows if within))

    def test_arguments(self):
        self.assertEqual(list(inspect.signature(raised).parameters), ["count", "part"])

    def test_nothing_to_raise(self):
        for count in PLAIN_COUNTS + DEEP_COUNTS:
            self.assert_refused(NotApart, raised, count, 0)

    def test_nothing_to_raise_told_by_a_tree_that_is_not_plain(self):
        for part in ((0, 0), ((0, 0), 0), ((0, 0), (0, (0, 0)))):
            self.assert_refused(NotApart, raised, 5, part)
            self.assert_refused(NotApart, raised, (0, 1, 0), part)

    def test_the_whole_field(self):
        for count in PLAIN_COUNTS + NOT_PLAIN_COUNTS + DEEP_COUNTS:
            self.assert_raised(count, 1)

    def test_all_small_trees(self):
        for count in SMALL_COUNTS + PLAIN_COUNTS:
            for part in SMALL_PARTS:
                self.assert_raised(count, part)

    def test_trees_that_are_not_plain(self):
        for count in NOT_PLAIN_COUNTS + PLAIN_COUNTS:
            for part in NOT_PLAIN_PARTS + PLAIN_PARTS:
                if plain_part(part) != 0:
                    self.assert_raised(count, part)

    def test_deep_trees(self):
        for part in DEEP_PARTS:
            for count in (0, 5, (0, 1, 0), (2, 0, (0, 0, 1))) + DEEP_COUNTS[:9]:
                self.assert_raised(count, part)
                self.assert_raised(count, rest_of(part))
        for count in DEEP_COUNTS:
            for part in ((0, 1), (1, 0), ((0, 1), (1, 0)), (1, (0, 1)), deep_part(30, 1)):
                self.assert_raised(count, part)

    def test_one_small_stretch(self):
        for depth in (29, 30, 31, 40):
            for side in (0, 1):
                part = sided_part(depth, side)
                self.assert_raised(3, part)
                self.assert_raised(sided_count(depth, side), part)
                self.assert_raised(sided_count(depth, 1 - side), part)

    def test_again_and_again(self):
        for part in (1, (0, 1), ((0, 1), (1, 0)), (1, (0, 1)), deep_part(30, 1), sided_part(30, 0, 1, 0)):
            for count in (0, (0, 1, 0), (3, (0, 0, 1), 0), deep_count(30, 2)):
                for turn in range(12):
                    self.assert_raised(count, part)
                    count = raised(count, part)

    def test_large_numbers(self):
        large = 10 ** 60
        for count in (large, (large, 0, large), (0, (large, 0, 1), 0)):
            for part in (1, (1, 0), (0, 1), ((0, 1), 0)):
                self.assert_raised(count, part)

    def test_drawn_trees(self):
        draw = random.Random(9)
        for turn in range(2500):
            part = drawn_part(draw, 5)
            if plain_part(part) != 0:
                self.assert_raised(drawn_count(draw, 5), part)

    def test_trees_get_small_again(self):
        for count in PLAIN_COUNTS + DEEP_COUNTS:
            self.assertIs(type(raised(count, 1)), int)
        self.assertEqual(raised((0, (0, 1, 0), 4), (1, 0)), 4)
        self.assertEqual(raised((0, 2, (0, 0, 3)), (0, 1)), (2, 0, 1))
        self.assertEqual(raised((0, 0, (4, 0, 1)), (1, 0)), (4, 0, (0, 0, 1)))
        self.assertEqual(raised((0, (4, 0, 1), 0), (0, 1)), (4, (0, 0, 1), 0))

    def test_no_tree_gets_deeper_than_it_must(self):
        self.assertEqual(raised(0, (((0, 1), 0), 1)), (0, 0, 1))
        self.assertEqual(raised(0, (1, ((0, 1), 0))), (0, 1, 0))
        self.assertEqual(raised((0, (0, 1, 0), 0), ((1, 0), (1, 0))), (0, (0, 2, 0), 0))
        self.assertEqual(raised((0, 0, (0, 1, 0)), ((1, 0), (1, 0))), (0, 0, (0, 2, 0)))


if __name__ == "__main__":
    unittest.main()
