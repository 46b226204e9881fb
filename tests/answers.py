"""What holds of each answer, whatever is asked (point 0.3)."""

import unittest

from treeclock.errors import ClockError


def is_tree(thing):
    """Whether it is made of tuples and whole numbers alone."""
    if type(thing) is tuple:
        return all(is_tree(branch) for branch in thing)
    return type(thing) is int


class Answers(unittest.TestCase):
    def answer(self, function, *things):
        """What is answered: twice the same, what is handed in not changed, of the kinds that the document names."""
        # == takes truths for numbers, repr does not.
        before = repr(things)
        told = function(*things)
        again = function(*things)
        with self.subTest(function=function.__name__, things=things):
            self.assertEqual(repr(again), repr(told))
            self.assertEqual(repr(things), before)
            self.assertTrue(type(told) in (bool, str) or is_tree(told))
        return told

    def assert_refused(self, refusal, function, *things):
        before = repr(things)
        for taken_as in (refusal, ClockError, ValueError, refusal):
            with self.subTest(function=function.__name__, things=things, taken_as=taken_as):
                with self.assertRaises(taken_as) as taken:
                    function(*things)
                self.assertIs(type(taken.exception), refusal)
                self.assertEqual(repr(things), before)
