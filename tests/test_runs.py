"""Points 0.1 and 0.2 (a) to (f): drawn runs of hands, beside which the deeds that each knows are kept as sets."""

import random
import unittest

from treeclock.clocks import done, first, knows, met, parted, sent
from treeclock.counts import highest, is_at_most
from treeclock.errors import NotApart
from treeclock.parts import are_apart
from treeclock.reading import read
from treeclock.trees import is_clock, plain_count, plain_part
from treeclock.writing import written
from tests.samples import rows_told


class Run:
    """Hands and what they sent, each as a pair of its clock and the set of the deeds that it knows."""

    def __init__(self, draw, most_hands, most_letters):
        self.draw = draw
        self.most_hands = most_hands
        self.most_letters = most_letters
        self.hands = [(first(), frozenset())]
        self.letters = []
        self.deeds = 0
        # What a deed was done to, and what came of it, for the one that looks on.
        self.last_deed = None

    def all_clocks(self):
        return self.hands + self.letters

    def take_hand(self):
        return self.hands.pop(self.draw.randrange(len(self.hands)))

    def part(self):
        if len(self.hands) < self.most_hands:
            clock, known = self.take_hand()
            self.hands.extend((half, known) for half in parted(clock))

    def do(self):
        clock, known = self.take_hand()
        self.deeds += 1
        self.last_deed = (clock, done(clock))
        self.hands.append((self.last_deed[1], known | {self.deeds}))

    def send(self):
        clock, known = self.draw.choice(self.all_clocks())
        self.letters.append((sent(clock), known))
        if len(self.letters) > self.most_letters:
            self.letters.pop(self.draw.randrange(len(self.letters)))

    def get(self):
        if self.letters:
            self.meet(self.take_hand(), self.draw.choice(self.letters))

    def come_together(self):
        if len(self.hands) > 1:
            self.meet(self.take_hand(), self.take_hand())

    def meet(self, one, other):
        clock = met(one[0], other[0]) if self.draw.randrange(2) else met(other[0], one[0])
        self.hands.append((clock, one[1] | other[1]))

    def step(self, weights):
        self.last_deed = None
        steps = (self.part, self.do, self.send, self.get, self.come_together)
        self.draw.choices(steps, weights)[0]()


class Runs(unittest.TestCase):
    def check_deeds_known(self, run):
        """(a), of each two clocks."""
        for one, known_by_one in run.all_clocks():
            for other, known_by_other in run.all_clocks():
                whether = known_by_one <= known_by_other
                self.assertIs(knows(other, one), whether, (one, other))
                self.assertIs(is_at_most(one[1], other[1]), whether, (one, other))

    def check_parts(self, run):
        """(b), by what the trees tell and by are_apart; what is sent has no part."""
        parts = [clock[0] for clock, known in run.hands]
        self.assertTrue(all(sum(row) == 1 for row in rows_told(*parts)), parts)
        for place, part in enumerate(parts):
            self.assertNotEqual(part, 0)
            self.assertTrue(all(are_apart(part, other) for other in parts[:place] + parts[place + 1:]))
        for clock, known in run.letters:
            self.assertEqual(clock[0], 0)

    def check_coming_together(self, run):
        """(c), without a change to the run, in a drawn order."""
        clocks = run.draw.sample(run.all_clocks(), len(run.all_clocks()))
        while len(clocks) > 1:
            one = clocks.pop(run.draw.randrange(len(clocks)))
            other = clocks.pop(run.draw.randrange(len(clocks)))
            clocks.append((met(one[0], other[0]), one[1] | other[1]))
        whole, known = clocks[0]
        self.assertEqual(repr(whole[0]), "1")
        self.assertEqual(known, set(range(1, run.deeds + 1)))
        self.assertTrue(all(knows(whole, clock) for clock, known in run.all_clocks()))
        # Told by one number each, as soon as the one hand does a deed.
        self.assertEqual([type(tree) for tree in done(whole)], [int, int])

    def check_deed(self, run):
        """(d), of the last step if it was a deed."""
        if run.last_deed is None:
            return
        before, after = run.last_deed
        self.assertEqual(before[0], after[0])
        rows = rows_told(before[0], before[1], after[1])
        self.assertTrue(all(old == new for within, old, new in rows if not within), run.last_deed)
        self.assertTrue(all(old <= new for within, old, new in rows if within), run.last_deed)
        self.assertTrue(any(old < new for within, old, new in rows if within), run.last_deed)

    def check_texts(self, run):
        """(e), of each clock."""
        for clock, known in run.all_clocks():
            self.assertIs(is_clock(clock), True, clock)
            self.assertEqual(repr(read(written(clock))), repr(clock))
            self.assertEqual((plain_part(clock[0]), plain_count(clock[1])), clock)

    def check_order(self, run):
        """(f), of all that is known, put together in drawn orders."""
        counts = [clock[1] for clock, known in run.all_clocks()]
        outcomes = {}
        for turn in range(3):
            outcome = run.draw.choice(counts)
            for count in run.draw.sample(counts, len(counts)) + run.draw.choices(counts, k=2):
                outcome = highest(outcome, count) if run.draw.randrange(2) else highest(count, outcome)
            outcomes[outcome] = True
        self.assertEqual(len(outcomes), 1, counts)

    def check_refusals(self, run):
        clock = run.draw.choice(run.hands)[0]
        for function, clocks in ((met, (clock, clock)), (done, (sent(clock),)), (met, (parted(clock)[0], clock))):
            with self.assertRaises(NotApart):
                function(*clocks)

    def check_all(self, run):
        self.check_deeds_known(run)
        self.check_parts(run)
        self.check_coming_together(run)
        self.check_deed(run)
        self.check_texts(run)
        self.check_order(run)
        self.check_refusals(run)

    def run_drawn(self, seeds, steps, most_hands, most_letters, weights):
        for seed in seeds:
            with self.subTest(seed=seed):
                run = Run(random.Random(seed), most_hands, most_letters)
                for step in range(steps):
                    run.step(weights)
                    self.check_all(run)

    def test_all_kinds_of_steps(self):
        self.run_drawn(range(30), 60, 6, 4, (2, 3, 2, 3, 2))

    def test_two_hands(self):
        self.run_drawn(range(100, 120), 60, 2, 3, (2, 3, 2, 2, 1))

    def test_many_hands(self):
        self.run_drawn(range(200, 205), 60, 14, 3, (5, 4, 2, 2, 1))

    def test_hands_that_send_nothing(self):
        self.run_drawn(range(300, 315), 60, 6, 1, (2, 3, 0, 0, 2))

    def test_hands_that_never_come_together(self):
        self.run_drawn(range(400, 410), 60, 9, 3, (1, 4, 2, 2, 0))

    def test_a_long_run(self):
        self.run_drawn((500, 501), 400, 5, 3, (2, 2, 1, 1, 2))

    def test_a_hand_that_parts_forty_times(self):
        for side in (0, 1):
            run = Run(random.Random(600 + side), 50, 1)
            for turn in range(40):
                clock, known = run.hands.pop()
                two = parted(clock)
                run.deeds += 1
                run.hands.append((two[1 - side], known))
                run.hands.append((done(two[side]), known | {run.deeds}))
            self.check_all(run)

    def test_the_same_run_twice(self):
        runs = [Run(random.Random(700), 6, 4) for turn in range(2)]
        for run in runs:
            for step in range(300):
                run.step((2, 3, 2, 3, 2))
        self.assertEqual(repr(runs[0].all_clocks()), repr(runs[1].all_clocks()))


if __name__ == "__main__":
    unittest.main()
