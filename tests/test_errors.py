"""The interface's errors.py: the refusals and how they stand to one another."""

import unittest

from treeclock.errors import ClockError, NoClock, NoText, NotApart

REFUSALS = (NoClock, NoText, NotApart)


class Errors(unittest.TestCase):
    def test_clock_error_stands_under_value_error(self):
        self.assertEqual(ClockError.__bases__, (ValueError,))

    def test_each_refusal_stands_under_clock_error(self):
        for refusal in REFUSALS:
            with self.subTest(refusal=refusal):
                self.assertTrue(issubclass(refusal, ClockError))
                self.assertFalse(issubclass(ClockError, refusal))

    def test_none_stands_under_another(self):
        for one in REFUSALS:
            for other in REFUSALS:
                with self.subTest(one=one, other=other):
                    self.assertEqual(issubclass(one, other), one is other)

    def test_names(self):
        names = [refusal.__name__ for refusal in (ClockError,) + REFUSALS]
        self.assertEqual(names, ["ClockError", "NoClock", "NoText", "NotApart"])

    def test_each_is_taken_as_clock_error_and_as_value_error(self):
        for refusal in REFUSALS:
            for above in (refusal, ClockError, ValueError):
                with self.subTest(refusal=refusal, above=above), self.assertRaises(above):
                    raise refusal("words")


if __name__ == "__main__":
    unittest.main()
