"""That the tests' own measure tells trees apart."""

import unittest

from tests.samples import deep_count, deep_part, field_of, tell_the_same


class TellTheSame(unittest.TestCase):
    def test_same_fields(self):
        self.assertTrue(tell_the_same((0, 0), 0))
        self.assertTrue(tell_the_same(((0, 1), (1, 1)), ((0, 1), 1)))
        self.assertTrue(tell_the_same((0, 1, 1), 1))
        self.assertTrue(tell_the_same((1, (2, 0, 1), 3), (3, (0, 0, 1), 1)))

    def test_other_fields(self):
        self.assertFalse(tell_the_same(0, 1))
        self.assertFalse(tell_the_same((0, 1), (1, 0)))
        self.assertFalse(tell_the_same((0, 1), 1))
        self.assertFalse(tell_the_same((0, 1, 0), 1))
        self.assertFalse(tell_the_same((1, (2, 0, 1), 3), (3, (0, 1, 0), 1)))

    def test_a_small_stretch_far_down(self):
        self.assertFalse(tell_the_same(deep_part(30, (0, 1)), deep_part(30, (1, 0))))
        self.assertFalse(tell_the_same(deep_count(30, 1), deep_count(30, 2)))

    def test_rows(self):
        self.assertEqual(field_of(((0, 1), 1), 2), (0, 1, 1, 1))
        self.assertEqual(field_of((1, (2, 0, 1), 3), 2), (3, 4, 4, 4))


if __name__ == "__main__":
    unittest.main()
