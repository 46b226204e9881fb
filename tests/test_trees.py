"""Points 0.3 to 0.6, 1.1 and 1.2: what is a plain tree or a clock, and how trees are made plain."""

import copy
import inspect
import unittest

from treeclock.trees import is_clock, is_count, is_part, plain_count, plain_part
from tests.samples import (
    NOT_PLAIN_COUNTS, NOT_PLAIN_PARTS, NOTHING_OF_OURS, PLAIN_COUNTS, PLAIN_PARTS, WRONG_COUNTS, WRONG_PARTS,
    all_counts, all_parts, deep_count, deep_part, field_of, tell_the_same,
)

DEPTHS = (1, 2, 3, 10, 29, 30)
SOMEWHAT_BEYOND = (31, 32, 40)


def full_part(depth):
    """A part tree with all its ends that deep."""
    return (0, 1) if depth == 1 else (full_part(depth - 1), full_part(depth - 1))


def full_count(depth):
    """A count tree with all its ends that deep."""
    return (1, 0, 1) if depth == 1 else (depth, (0,) + full_count(depth - 1)[1:], full_count(depth - 1))


class Asking(unittest.TestCase):
    def assert_told(self, ask, thing, answer):
        """The very truth, twice, and the thing as it was."""
        before = copy.deepcopy(thing)
        with self.subTest(ask=ask.__name__, thing=thing):
            self.assertIs(ask(thing), answer)
            self.assertIs(ask(thing), answer)
            # == takes truths for numbers, repr does not.
            self.assertEqual(repr(thing), repr(before))


class IsPart(Asking):
    def test_arguments(self):
        for ask in (is_part, is_count, is_clock):
            self.assertEqual(list(inspect.signature(ask).parameters), ["thing"])

    def test_plain_parts(self):
        for tree in PLAIN_PARTS:
            self.assert_told(is_part, tree, True)

    def test_wrong_things(self):
        for thing in WRONG_PARTS:
            self.assert_told(is_part, thing, False)

    def test_plain_parts_far_down(self):
        for depth in DEPTHS + SOMEWHAT_BEYOND:
            self.assert_told(is_part, deep_part(depth, 1, 0), True)
            self.assert_told(is_part, deep_part(depth, 0, 1), True)
            self.assert_told(is_part, deep_part(depth - 1, (1, 0)), True)

    def test_wrong_things_far_down(self):
        for thing in WRONG_PARTS:
            for depth in DEPTHS:
                for sibling in (0, 1):
                    self.assert_told(is_part, deep_part(depth, thing, sibling), False)

    def test_pairs_that_are_not_plain_far_down(self):
        for depth in DEPTHS:
            self.assert_told(is_part, deep_part(depth, 0, 0), False)
            self.assert_told(is_part, deep_part(depth, 1, 1), False)

    def test_a_list_in_the_place_of_a_tuple_at_each_depth(self):
        for depth in range(30):
            self.assert_told(is_part, deep_part(depth, list(deep_part(30 - depth, 1))), False)

    def test_a_wide_tree(self):
        tree = full_part(10)
        self.assertIs(is_part(tree), True)
        self.assertIs(is_part((tree, (tree, (0, 0)))), False)
        self.assertIs(is_part((((True, 0), tree), tree)), False)

    def test_each_field_has_one_plain_part(self):
        plain = [field_of(tree, 3) for tree in all_parts(3) if is_part(tree)]
        self.assertEqual(len(plain), 2 ** 8)
        self.assertEqual(len(set(plain)), 2 ** 8)


class IsCount(Asking):
    def test_plain_counts(self):
        for tree in PLAIN_COUNTS:
            self.assert_told(is_count, tree, True)

    def test_wrong_things(self):
        for thing in WRONG_COUNTS:
            self.assert_told(is_count, thing, False)

    def test_plain_counts_far_down(self):
        for depth in DEPTHS + SOMEWHAT_BEYOND:
            self.assert_told(is_count, deep_count(depth, 1), True)
            self.assert_told(is_count, deep_count(depth, 0, 5), True)
            self.assert_told(is_count, deep_count(depth - 1, (3, 0, 4)), True)
            self.assert_told(is_count, deep_count(depth - 1, (0, 4, 0), 7), True)

    def test_wrong_things_far_down(self):
        for thing in WRONG_COUNTS:
            for depth in DEPTHS:
                for sibling in (0, 2):
                    self.assert_told(is_count, deep_count(depth, thing, sibling), False)

    def test_triples_that_are_not_plain_far_down(self):
        for depth in DEPTHS:
            self.assert_told(is_count, deep_count(depth, 0, 0), False)
            self.assert_told(is_count, deep_count(depth, 1, 1), False)
            self.assert_told(is_count, deep_count(depth, (2, 0, 1), 1), False)
            self.assert_told(is_count, deep_count(depth, (2, 0, 1), (1, 1, 0)), False)

    def test_a_list_in_the_place_of_a_tuple_at_each_depth(self):
        for depth in range(30):
            self.assert_told(is_count, deep_count(depth, list(deep_count(30 - depth, 1))), False)

    def test_wrong_numbers_ahead_at_each_depth(self):
        for depth in DEPTHS:
            for number in (-1, True, False, None, "0", [], ()):
                self.assert_told(is_count, deep_count(depth, (number, 0, 1)), False)

    def test_a_wide_tree(self):
        tree = full_count(10)
        self.assertIs(is_count(tree), True)
        self.assertIs(is_count((0, tree, (0, tree, (0, 1, 0)))), True)
        self.assertIs(is_count((0, tree, (0, tree, (1, 1, 0)))), False)

    def test_each_field_has_one_plain_count(self):
        numbers = (0, 1, 2)
        plain = [tree for tree in all_counts(2, numbers) if is_count(tree)]
        self.assertEqual(len({field_of(tree, 2) for tree in plain}), len(plain))
        # Every row of four counts up to 2 is told by one of them.
        self.assertEqual(len([tree for tree in plain if max(field_of(tree, 2)) <= 2]), 3 ** 4)


class IsClock(Asking):
    def test_clocks(self):
        for part in PLAIN_PARTS:
            for count in PLAIN_COUNTS:
                self.assert_told(is_clock, (part, count), True)

    def test_deep_clocks(self):
        for depth in DEPTHS + SOMEWHAT_BEYOND:
            self.assert_told(is_clock, (deep_part(depth, 1), deep_count(depth, 1)), True)

    def test_a_wrong_part(self):
        for part in WRONG_PARTS:
            self.assert_told(is_clock, (part, 0), False)
            self.assert_told(is_clock, (part, (0, 1, 0)), False)
            self.assert_told(is_clock, (deep_part(30, part, 1), 0), False)

    def test_a_wrong_count(self):
        for count in WRONG_COUNTS:
            self.assert_told(is_clock, (1, count), False)
            self.assert_told(is_clock, ((0, 1), count), False)
            self.assert_told(is_clock, (1, deep_count(30, count, 2)), False)

    def test_things_that_are_no_pair(self):
        for thing in NOTHING_OF_OURS + (0, 1, 2, (1, 0, 0), (1, 0, 1), (1, 0, 0, 0), [1, 0], [(0, 1), (0, 1, 0)]):
            self.assert_told(is_clock, thing, False)

    def test_pairs_the_other_way_round(self):
        self.assert_told(is_clock, ((0, 1, 0), (0, 1)), False)
        self.assert_told(is_clock, (5, 1), False)

    def test_a_clock_within_a_clock(self):
        self.assert_told(is_clock, ((1, 0),), False)
        self.assert_told(is_clock, (1, (1, 0)), False)


class Plain(unittest.TestCase):
    def assert_plain(self, make, ask, tree):
        before = repr(tree)
        outcome = make(tree)
        with self.subTest(tree=tree):
            self.assertIs(ask(outcome), True)
            self.assertTrue(tell_the_same(outcome, tree))
            self.assertEqual(make(tree), outcome)
            self.assertEqual(make(outcome), outcome)
            self.assertEqual(repr(tree), before)

    def assert_becomes(self, make, tree, outcome):
        with self.subTest(tree=tree):
            # == takes truths for numbers, repr does not.
            self.assertEqual(repr(make(tree)), repr(outcome))


class PlainPart(Plain):
    def test_arguments(self):
        for make in (plain_part, plain_count):
            self.assertEqual(list(inspect.signature(make).parameters), ["tree"])

    def test_plain_already(self):
        for tree in PLAIN_PARTS:
            self.assert_becomes(plain_part, tree, tree)

    def test_plain_already_and_deep(self):
        for depth in DEPTHS + SOMEWHAT_BEYOND:
            self.assert_becomes(plain_part, deep_part(depth, 1), deep_part(depth, 1))
            self.assert_becomes(plain_part, deep_part(depth, 0, 1), deep_part(depth, 0, 1))

    def test_not_plain_at_the_top(self):
        self.assert_becomes(plain_part, (0, 0), 0)
        self.assert_becomes(plain_part, (1, 1), 1)

    def test_not_plain_below(self):
        self.assert_becomes(plain_part, ((0, 0), 1), (0, 1))
        self.assert_becomes(plain_part, (0, (1, 1)), (0, 1))
        self.assert_becomes(plain_part, ((0, 1), (0, 0)), ((0, 1), 0))
        self.assert_becomes(plain_part, ((0, 0), (1, 1)), (0, 1))

    def test_what_is_made_plain_below_changes_what_stands_above(self):
        self.assert_becomes(plain_part, ((0, 0), 0), 0)
        self.assert_becomes(plain_part, (1, (1, 1)), 1)
        self.assert_becomes(plain_part, ((0, 0), (0, 0)), 0)
        self.assert_becomes(plain_part, (((1, 1), 1), (1, (1, (1, 1)))), 1)
        self.assert_becomes(plain_part, (((0, 0), 0), ((0, 1), (1, 1))), (0, ((0, 1), 1)))

    def test_equal_halves_that_are_pairs_stay(self):
        self.assert_becomes(plain_part, ((0, 1), (0, 1)), ((0, 1), (0, 1)))
        self.assert_becomes(plain_part, ((0, (1, 1)), (0, 1)), ((0, 1), (0, 1)))

    def test_not_plain_far_down(self):
        for depth in DEPTHS + SOMEWHAT_BEYOND:
            self.assert_becomes(plain_part, deep_part(depth, (1, 1)), deep_part(depth, 1))
            self.assert_becomes(plain_part, deep_part(depth, (0, 0), 1), deep_part(depth, 0, 1))

    def test_all_the_way_up_from_far_down(self):
        for number in (0, 1):
            tree = number
            for depth in range(40):
                tree = (tree, number) if depth % 2 else (number, tree)
                self.assert_becomes(plain_part, tree, number)

    def test_samples(self):
        for tree in PLAIN_PARTS + NOT_PLAIN_PARTS:
            self.assert_plain(plain_part, is_part, tree)
            for depth in DEPTHS:
                self.assert_plain(plain_part, is_part, deep_part(depth, tree))
                self.assert_plain(plain_part, is_part, deep_part(depth, tree, tree))

    def test_all_trees_three_deep(self):
        plain_of = {}
        for tree in all_parts(3):
            outcome = plain_part(tree)
            self.assertIs(is_part(outcome), True)
            field = field_of(tree, 3)
            self.assertEqual(field_of(outcome, 3), field)
            self.assertEqual(plain_of.setdefault(field, outcome), outcome)

    def test_a_wide_tree(self):
        tree = full_part(10)
        self.assertEqual(plain_part(((tree, (0, 0)), tree)), ((tree, 0), tree))


class PlainCount(Plain):
    def test_plain_already(self):
        for tree in PLAIN_COUNTS:
            self.assert_becomes(plain_count, tree, tree)

    def test_plain_already_and_deep(self):
        for depth in DEPTHS + SOMEWHAT_BEYOND:
            self.assert_becomes(plain_count, deep_count(depth, 1), deep_count(depth, 1))
            self.assert_becomes(plain_count, deep_count(depth, 0, 5), deep_count(depth, 0, 5))

    def test_both_the_number_0(self):
        self.assert_becomes(plain_count, (0, 0, 0), 0)
        self.assert_becomes(plain_count, (9, 0, 0), 9)

    def test_fronts_both_above_0(self):
        self.assert_becomes(plain_count, (0, 1, 1), 1)
        self.assert_becomes(plain_count, (3, 4, 4), 7)
        self.assert_becomes(plain_count, (3, 4, 5), (7, 0, 1))
        self.assert_becomes(plain_count, (3, 5, 4), (7, 1, 0))
        self.assert_becomes(plain_count, (0, 1, (1, 0, 1)), (1, 0, (0, 0, 1)))
        self.assert_becomes(plain_count, (0, (5, 0, 1), 3), (3, (2, 0, 1), 0))
        self.assert_becomes(plain_count, (1, (2, 0, 1), (4, 3, 0)), (3, (0, 0, 1), (2, 3, 0)))

    def test_large_numbers(self):
        large = 10 ** 40
        self.assert_becomes(plain_count, (large, large, large), 2 * large)
        self.assert_becomes(plain_count, (1, large, large + 1), (large + 1, 0, 1))

    def test_what_is_made_plain_below_changes_what_stands_above(self):
        self.assert_becomes(plain_count, (0, (0, 0, 0), 0), 0)
        self.assert_becomes(plain_count, (0, (0, 1, 1), 1), 1)
        self.assert_becomes(plain_count, (2, (0, 1, 1), (1, 0, 0)), 3)
        self.assert_becomes(plain_count, (0, (0, 1, 2), 1), (1, (0, 0, 1), 0))
        self.assert_becomes(plain_count, (0, 3, (1, (0, 1, 1), (0, 2, 2))), (2, 1, (0, 0, 1)))

    def test_equal_halves_that_are_triples_stay(self):
        self.assert_becomes(plain_count, (0, (0, 0, 1), (0, 0, 1)), (0, (0, 0, 1), (0, 0, 1)))
        self.assert_becomes(plain_count, (0, (2, 0, 1), (2, 0, 1)), (2, (0, 0, 1), (0, 0, 1)))

    def test_not_plain_far_down(self):
        for depth in DEPTHS + SOMEWHAT_BEYOND:
            self.assert_becomes(plain_count, deep_count(depth, (3, 0, 0)), deep_count(depth, 3))
            self.assert_becomes(plain_count, deep_count(depth, (1, 2, 3)), deep_count(depth, (3, 0, 1)))

    def test_all_the_way_up_from_far_down(self):
        tree = 2
        for depth in range(40):
            tree = (1, tree, depth + 2) if depth % 2 else (1, depth + 2, tree)
            self.assert_becomes(plain_count, tree, depth + 3)

    def test_samples(self):
        for tree in PLAIN_COUNTS + NOT_PLAIN_COUNTS:
            self.assert_plain(plain_count, is_count, tree)
            for depth in DEPTHS:
                self.assert_plain(plain_count, is_count, deep_count(depth, tree))
                self.assert_plain(plain_count, is_count, deep_count(depth, tree, 2))
                self.assert_plain(plain_count, is_count, deep_count(depth, tree, tree))

    def test_all_trees_two_deep(self):
        plain_of = {}
        for tree in all_counts(2, (0, 1, 2)):
            outcome = plain_count(tree)
            self.assertIs(is_count(outcome), True)
            field = field_of(tree, 2)
            self.assertEqual(field_of(outcome, 2), field)
            self.assertEqual(plain_of.setdefault(field, outcome), outcome)

    def test_a_wide_tree(self):
        tree = full_count(10)
        self.assertEqual(plain_count((0, tree, (0, 5, 5))), (5, (5,) + tree[1:], 0))


if __name__ == "__main__":
    unittest.main()
