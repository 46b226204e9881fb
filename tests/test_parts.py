"""Point 2.1: parts that are apart, put together, and halved."""

import inspect
import random
import unittest

from treeclock.errors import NotApart
from treeclock.parts import are_apart, halves, together
from treeclock.trees import is_part, plain_part
from tests.answers import Answers
from tests.samples import (
    DEEP_PARTS, NOT_PLAIN_PARTS, PLAIN_PARTS, all_parts, deep_part, drawn_part, rest_of, rows_told, sided_part,
)

ALL_PLAIN = tuple(tree for tree in all_parts(3) if is_part(tree))
SMALL_PLAIN = tuple(tree for tree in all_parts(2) if is_part(tree))


def have_nothing_in_common(one, other):
    return all(row != (1, 1) for row in rows_told(one, other))


class Parts(Answers):
    def assert_apart(self, one, other, whether):
        self.assertIs(self.answer(are_apart, one, other), whether)
        self.assertIs(self.answer(are_apart, other, one), whether)

    def assert_put_together(self, one, other):
        """As the document says, for parts that are apart and for those that aren't."""
        apart = have_nothing_in_common(one, other)
        self.assert_apart(one, other, apart)
        if not apart:
            self.assert_refused(NotApart, together, one, other)
            return
        outcome = self.answer(together, one, other)
        with self.subTest(one=one, other=other):
            self.assertIs(is_part(outcome), True)
            self.assertTrue(all(row[0] + row[1] == row[2] for row in rows_told(one, other, outcome)))
            self.assertEqual(together(other, one), outcome)


class AreApart(Parts):
    def test_arguments(self):
        for function in (are_apart, together):
            self.assertEqual(list(inspect.signature(function).parameters), ["one", "other"])

    def test_numbers(self):
        self.assert_apart(0, 0, True)
        self.assert_apart(0, 1, True)
        self.assert_apart(1, 1, False)

    def test_a_number_and_a_tree(self):
        for part in PLAIN_PARTS + DEEP_PARTS:
            self.assert_apart(0, part, True)
            self.assert_apart(1, part, part == 0)

    def test_trees(self):
        self.assert_apart((0, 1), (1, 0), True)
        self.assert_apart((0, 1), (0, 1), False)
        self.assert_apart((0, 1), (0, (0, 1)), False)
        self.assert_apart((0, (1, 0)), (0, (0, 1)), True)
        self.assert_apart(((0, 1), 1), ((1, 0), 0), True)
        self.assert_apart(((0, 1), 1), ((1, 0), (0, 1)), False)

    def test_trees_that_are_not_plain(self):
        self.assert_apart((0, 0), 1, True)
        self.assert_apart((0, 0), (1, 1), True)
        self.assert_apart(((0, 0), 1), (1, (0, 0)), True)
        self.assert_apart((1, 1), (0, (0, 1)), False)

    def test_deep_trees(self):
        for part in DEEP_PARTS:
            self.assert_apart(part, part, False)
            self.assert_apart(part, rest_of(part), True)

    def test_one_small_stretch_in_common(self):
        for depth in (1, 29, 30, 31, 40):
            for side in (0, 1):
                far = sided_part(depth, side)
                self.assert_apart(far, sided_part(depth, side, 1), False)
                self.assert_apart(far, sided_part(depth, side, 1, 0), True)
            self.assert_apart(deep_part(depth, (0, 1)), rest_of(deep_part(depth, (0, 1))), True)
            self.assert_apart(deep_part(depth, (0, 1)), rest_of(deep_part(depth, 0)), False)


class Together(Parts):
    def assert_becomes(self, one, other, outcome):
        self.assertEqual(repr(self.answer(together, one, other)), repr(outcome))
        self.assertEqual(repr(self.answer(together, other, one)), repr(outcome))

    def test_numbers(self):
        self.assert_becomes(0, 0, 0)
        self.assert_becomes(0, 1, 1)
        self.assert_refused(NotApart, together, 1, 1)

    def test_trees(self):
        self.assert_becomes((0, 1), (1, 0), 1)
        self.assert_becomes(0, (1, 0), (1, 0))
        self.assert_becomes((0, (1, 0)), (0, (0, 1)), (0, 1))
        self.assert_becomes(((0, 1), 0), (0, (1, 0)), ((0, 1), (1, 0)))
        self.assert_becomes(((0, 1), 1), ((1, 0), 0), 1)
        self.assert_becomes(((0, 1), 0), ((1, 0), (0, 1)), (1, (0, 1)))

    def test_not_apart(self):
        for one, other in (
            (1, (0, 1)), ((0, 1), (0, 1)), ((0, 1), (0, (0, 1))), (((0, 1), 1), (0, (1, 0))), (((1, 0), (0, 1)), (1, 0)),
        ):
            self.assert_refused(NotApart, together, one, other)
            self.assert_refused(NotApart, together, other, one)

    def test_trees_that_are_not_plain(self):
        self.assert_becomes((0, 0), 1, 1)
        self.assert_becomes((0, 0), 0, 0)
        self.assert_becomes((1, 1), 0, 1)
        self.assert_becomes(((1, 1), 0), ((0, 0), (0, 1)), (1, (0, 1)))
        for part in NOT_PLAIN_PARTS:
            self.assert_becomes(part, rest_of(part), 1)

    def test_deep_trees(self):
        for part in DEEP_PARTS:
            self.assert_becomes(part, rest_of(part), 1)
            self.assert_becomes(part, 0, part)
            self.assert_refused(NotApart, together, part, part)
            self.assert_refused(NotApart, together, part, 1)

    def test_one_small_stretch_in_common(self):
        for depth in (29, 30, 31, 40):
            for side in (0, 1):
                self.assert_refused(NotApart, together, sided_part(depth, side), sided_part(depth, side, 1))
                self.assert_becomes(sided_part(depth, side), sided_part(depth, side, 1, 0), 1)

    def test_all_small_trees(self):
        for one in SMALL_PLAIN:
            for other in SMALL_PLAIN:
                self.assert_put_together(one, other)

    def test_drawn_trees(self):
        draw = random.Random(3)
        for turn in range(1500):
            self.assert_put_together(drawn_part(draw, 4), drawn_part(draw, 4))

    def test_drawn_trees_that_are_apart(self):
        draw = random.Random(4)
        for turn in range(1500):
            part = plain_part(drawn_part(draw, 5))
            two = halves(part)
            self.assert_put_together(two[0], two[1])
            self.assert_put_together(two[draw.randrange(2)], rest_of(part))


class Halves(Parts):
    def assert_halved(self, part):
        two = self.answer(halves, part)
        with self.subTest(part=part):
            self.assertIs(type(two), tuple)
            self.assertEqual(len(two), 2)
            self.assertEqual((is_part(two[0]), is_part(two[1])), (True, True))
            self.assertTrue(all(row[0] + row[1] == row[2] for row in rows_told(two[0], two[1], part)))
            nothing = plain_part(part) == 0
            self.assertEqual((two[0] == 0, two[1] == 0), (nothing, nothing))
            self.assertIs(are_apart(two[0], two[1]), True)
            self.assertEqual(together(two[0], two[1]), plain_part(part))

    def test_arguments(self):
        self.assertEqual(list(inspect.signature(halves).parameters), ["part"])

    def test_nothing(self):
        self.assertEqual(self.answer(halves, 0), (0, 0))

    def test_all_parts_three_deep(self):
        for part in ALL_PLAIN:
            self.assert_halved(part)

    def test_trees_that_are_not_plain(self):
        for part in NOT_PLAIN_PARTS:
            self.assert_halved(part)

    def test_deep_trees(self):
        for part in DEEP_PARTS:
            self.assert_halved(part)

    def test_halved_again_and_again(self):
        for side in (0, 1):
            part = 1
            for turn in range(40):
                self.assert_halved(part)
                part = halves(part)[side]

    def test_drawn_trees(self):
        draw = random.Random(5)
        for turn in range(1000):
            self.assert_halved(drawn_part(draw, 6))


if __name__ == "__main__":
    unittest.main()
