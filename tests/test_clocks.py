"""Point 4.1: the clocks of hands, and what comes of deeds, sending, parting and meeting."""

import inspect
import unittest

from treeclock.clocks import done, first, knows, met, parted, sent
from treeclock.counts import highest, is_at_most
from treeclock.errors import NotApart
from treeclock.parts import together
from treeclock.trees import is_clock
from tests.answers import Answers
from tests.samples import DEEP_COUNTS, DEEP_PARTS, PLAIN_COUNTS, PLAIN_PARTS, rest_of, rows_told

CLOCKS = tuple((part, count) for part in PLAIN_PARTS for count in PLAIN_COUNTS)
DEEP_CLOCKS = tuple(zip(DEEP_PARTS, DEEP_COUNTS)) + tuple((part, 3) for part in DEEP_PARTS) + tuple(
    (part, count) for part in (0, 1, (0, 1)) for count in DEEP_COUNTS
)


class Clocks(Answers):
    def clock_of(self, function, *clocks):
        clock = self.answer(function, *clocks)
        self.assertIs(is_clock(clock), True)
        return clock


class First(Clocks):
    def test_arguments(self):
        self.assertEqual(list(inspect.signature(first).parameters), [])

    def test_first(self):
        self.assertEqual(repr(self.clock_of(first)), "(1, 0)")


class Parted(Clocks):
    def test_arguments(self):
        for function in (parted, done, sent):
            self.assertEqual(list(inspect.signature(function).parameters), ["clock"])

    def test_clocks(self):
        for clock in CLOCKS + DEEP_CLOCKS:
            two = self.answer(parted, clock)
            with self.subTest(clock=clock):
                self.assertIs(type(two), tuple)
                self.assertEqual([is_clock(one) for one in two], [True, True])
                self.assertEqual([one[1] for one in two], [clock[1], clock[1]])
                self.assertEqual([one[0] == 0 for one in two], [clock[0] == 0] * 2)
                rows = rows_told(two[0][0], two[1][0], clock[0])
                self.assertTrue(all(one + other == both for one, other, both in rows))
                self.assertEqual(met(two[0], two[1]), clock)

    def test_without_a_part(self):
        self.assertEqual(parted((0, (0, 1, 0))), ((0, (0, 1, 0)), (0, (0, 1, 0))))


class Done(Clocks):
    def test_clocks(self):
        for clock in CLOCKS + DEEP_CLOCKS:
            if clock[0] == 0:
                continue
            after = self.clock_of(done, clock)
            with self.subTest(clock=clock):
                self.assertEqual(after[0], clock[0])
                rows = rows_told(clock[0], clock[1], after[1])
                self.assertTrue(all(old == new for within, old, new in rows if not within))
                self.assertTrue(all(old <= new for within, old, new in rows))
                self.assertTrue(any(old < new for within, old, new in rows))

    def test_without_a_part(self):
        for count in PLAIN_COUNTS + DEEP_COUNTS:
            self.assert_refused(NotApart, done, (0, count))

    def test_after_sending(self):
        self.assert_refused(NotApart, done, sent(done(first())))


class Sent(Clocks):
    def test_clocks(self):
        for clock in CLOCKS + DEEP_CLOCKS:
            self.assertEqual(repr(self.clock_of(sent, clock)), repr((0, clock[1])))


class Met(Clocks):
    def test_arguments(self):
        for function in (met, knows):
            self.assertEqual(list(inspect.signature(function).parameters), ["one", "other"])

    def test_a_few(self):
        self.assertEqual(self.clock_of(met, ((1, 0), (0, 1, 0)), ((0, 1), (0, 0, 1))), (1, 1))
        self.assertEqual(self.clock_of(met, ((1, 0), (0, 2, 0)), ((0, (1, 0)), 1)), ((1, (1, 0)), (1, 1, 0)))
        self.assertEqual(self.clock_of(met, (0, 3), (0, (4, 0, 1))), (0, (4, 0, 1)))
        self.assertEqual(self.clock_of(met, (1, 3), (0, (0, 0, 5))), (1, (3, 0, 2)))

    def test_with_what_was_sent(self):
        for clock in CLOCKS + DEEP_CLOCKS:
            for count in PLAIN_COUNTS[:12] + DEEP_COUNTS[:2]:
                self.assertEqual(self.clock_of(met, clock, (0, count)), (clock[0], highest(clock[1], count)))
                self.assertEqual(met((0, count), clock), (clock[0], highest(clock[1], count)))

    def test_hands(self):
        for part in PLAIN_PARTS + DEEP_PARTS:
            for one, other in ((0, 0), (2, (1, 0, 3)), (DEEP_COUNTS[0], DEEP_COUNTS[1]), (DEEP_COUNTS[3], DEEP_COUNTS[4])):
                both = self.clock_of(met, (part, one), (rest_of(part), other))
                self.assertEqual(both, (1, highest(one, other)))

    def test_parts_in_common(self):
        for part in PLAIN_PARTS + DEEP_PARTS:
            if part == 0:
                continue
            for count in (0, (0, 1, 0), DEEP_COUNTS[0]):
                self.assert_refused(NotApart, met, (part, count), (part, count))
                self.assert_refused(NotApart, met, (part, count), (1, 0))
                self.assert_refused(NotApart, met, (1, count), (part, 0))

    def test_a_hand_and_its_own_half(self):
        for clock in CLOCKS + DEEP_CLOCKS:
            if clock[0] != 0:
                for half in parted(clock):
                    self.assert_refused(NotApart, met, half, clock)
                    self.assert_refused(NotApart, met, clock, half)

    def test_together_and_highest(self):
        for one in CLOCKS[::7]:
            for other in CLOCKS[::5]:
                if any(row == (1, 1) for row in rows_told(one[0], other[0])):
                    self.assert_refused(NotApart, met, one, other)
                else:
                    outcome = (together(one[0], other[0]), highest(one[1], other[1]))
                    self.assertEqual(self.clock_of(met, one, other), outcome)


class Knows(Clocks):
    def assert_knows(self, one, other, whether):
        self.assertIs(self.answer(knows, one, other), whether)

    def test_deeds(self):
        one, other = parted(first())
        self.assert_knows(one, other, True)
        self.assert_knows(other, one, True)
        later = done(one)
        self.assert_knows(later, one, True)
        self.assert_knows(one, later, False)
        self.assert_knows(later, other, True)
        self.assert_knows(other, later, False)
        beside = done(other)
        self.assert_knows(later, beside, False)
        self.assert_knows(beside, later, False)
        told = met(beside, sent(later))
        self.assert_knows(told, later, True)
        self.assert_knows(later, told, False)
        self.assert_knows(told, beside, True)

    def test_by_the_counts_alone(self):
        for one in CLOCKS[::3]:
            for other in CLOCKS[::5]:
                self.assert_knows(one, other, is_at_most(other[1], one[1]))
                self.assertIs(knows(sent(one), sent(other)), knows(one, other))
                self.assertIs(knows(sent(one), other), knows(one, other))

    def test_which_way_round(self):
        self.assert_knows((1, 2), (0, 1), True)
        self.assert_knows((1, 1), (0, 2), False)
        self.assert_knows((0, (2, 0, 5)), (1, 2), True)
        self.assert_knows((0, (2, 0, 5)), (1, 3), False)
        self.assert_knows((0, 7), (1, (2, 0, 5)), True)
        self.assert_knows((0, 6), (1, (2, 0, 5)), False)

    def test_deep_counts(self):
        for one in DEEP_COUNTS:
            for other in DEEP_COUNTS[:9]:
                self.assert_knows((0, one), (1, other), all(row[0] >= row[1] for row in rows_told(one, other)))


if __name__ == "__main__":
    unittest.main()
