"""Points 3 and 5: stretches, too many for a stretch, and the marks of a spreading."""

import unittest

from seatmarks.stretches import is_too_full, spread, stretch_at


class IsTooFullTest(unittest.TestCase):

    def test_just_not_too_many_and_one_more(self):
        for level, many in ((0, 1), (1, 1), (2, 1), (3, 2), (4, 3), (5, 4), (6, 5), (7, 7),
                            (8, 9), (9, 13), (10, 17), (11, 23), (12, 31), (18, 177), (19, 236)):
            self.assertIs(is_too_full(level, many), False, level)
            self.assertIs(is_too_full(level, many + 1), True, level)

    def test_every_level(self):
        for level in range(61):
            most = 4 ** level // 3 ** level
            self.assertIs(is_too_full(level, most), False)
            self.assertIs(is_too_full(level, most + 1), True)

    def test_bounds_of_many(self):
        for level in (0, 60):
            self.assertIs(is_too_full(level, 0), False)
            self.assertIs(is_too_full(level, 2 ** 60), True)

    def test_equal_is_not_too_many(self):
        # Only at level 0 do both sides of the comparison meet.
        self.assertIs(is_too_full(0, 1), False)


class StretchAtTest(unittest.TestCase):

    def test_level_0(self):
        for mark in (0, 1, 7, 2 ** 60 - 1):
            self.assertEqual(stretch_at(0, mark), mark)

    def test_level_60(self):
        for mark in (0, 1, 2 ** 59, 2 ** 60 - 1):
            self.assertEqual(stretch_at(60, mark), 0)

    def test_first_and_last_of_a_stretch(self):
        for level in range(60):
            size = 2 ** level
            for first in (0, size, 2 ** 60 - size):
                self.assertEqual(stretch_at(level, first), first)
                self.assertEqual(stretch_at(level, first + size - 1), first)

    def test_neighbours(self):
        self.assertEqual([stretch_at(2, mark) for mark in range(9)], [0, 0, 0, 0, 4, 4, 4, 4, 8])


class SpreadTest(unittest.TestCase):

    def test_ordinary(self):
        self.assertEqual(spread(4, 0, 3), [0, 5, 10])
        self.assertEqual(spread(4, 48, 3), [48, 53, 58])
        self.assertEqual(spread(5, 0, 4), [0, 8, 16, 24])
        self.assertEqual(spread(3, 8, 7), [8, 9, 10, 11, 12, 13, 14])
        self.assertEqual(spread(3, 8, 6), [8, 9, 10, 12, 13, 14])

    def test_start_is_taken_as_it_is(self):
        self.assertEqual(spread(3, 1, 2), [1, 5])
        self.assertEqual(spread(2, 2 ** 60 - 1, 2), [2 ** 60 - 1, 2 ** 60 + 1])

    def test_none_and_one(self):
        for level in (0, 1, 60):
            self.assertEqual(spread(level, 5, 0), [])
            self.assertEqual(spread(level, 5, 1), [5])

    def test_as_many_as_there_may_be(self):
        for level in range(11):
            size = 2 ** level
            self.assertEqual(spread(level, size, size), list(range(size, 2 * size)))
        self.assertEqual(spread(60, 0, 1024), [place * 2 ** 50 for place in range(1024)])
        self.assertEqual(len(spread(11, 0, 1024)), 1024)

    def test_great_numbers_lose_nothing(self):
        self.assertEqual(spread(60, 0, 3), [0, 384307168202282325, 768614336404564650])


if __name__ == "__main__":
    unittest.main()
