"""Point 1: what is told is the asker's own, and rows hang on their own deeds alone."""

import unittest

from seatmarks.rows import Row
from seatmarks.stretches import spread
from tests.helpers import row_of, state


class ToldListsTest(unittest.TestCase):

    def test_things_are_the_askers_own(self):
        row = row_of(Row(8), [None, 0, 1])
        before = state(row)
        told = row.things()
        told.reverse()
        told.append(99)
        self.assertEqual(state(row), before)
        self.assertEqual(row.things(), [0, 1, 2])
        told.clear()
        self.assertEqual(row.put(2)[0], 3)
        self.assertEqual(row.things(), [0, 1, 2, 3])

    def test_told_things_stay_behind_later_deeds(self):
        row = row_of(Row(8), [None, 0])
        told = row.things()
        row.put()
        row.take(0)
        self.assertEqual(told, [0, 1])

    def test_changed_is_the_askers_own(self):
        row = row_of(Row(5), [None] * 5, [1, 2])
        changed = row.put()[2]
        before = state(row)
        self.assertEqual(changed, [(4, 8), (3, 16), (0, 24)])
        changed.clear()
        changed.append((0, 1))
        self.assertEqual(state(row), before)
        self.assertEqual(before[0], [(5, 0), (4, 8), (3, 16), (0, 24)])

    def test_told_changed_stays_behind_later_deeds(self):
        row = row_of(Row(5), [None] * 5, [1, 2])
        changed = row.put()[2]
        row.take(4)
        row.put(5)
        row.put()
        self.assertEqual(changed, [(4, 8), (3, 16), (0, 24)])

    def test_empty_changed_is_not_shared(self):
        row = Row(8)
        first = row.put()[2]
        first.append((0, 0))
        self.assertEqual(row.put()[2], [])
        self.assertEqual(Row(8).put()[2], [])

    def test_spread_is_the_askers_own(self):
        told = spread(4, 0, 3)
        told.append(1)
        self.assertEqual(spread(4, 0, 3), [0, 5, 10])


class TwoRowsTest(unittest.TestCase):

    def test_rows_by_turns(self):
        apart = [self.told_of(8), self.told_of(5)]
        one, other = Row(8), Row(5)
        told_one, told_other = [], []
        for step in range(9):
            told_one.append(self.deed(one, step))
            told_other.append(self.deed(other, step))
        self.assertEqual([told_one, told_other], apart)
        self.assertNotEqual(told_one, told_other)

    def test_a_row_made_later_is_empty(self):
        row_of(Row(8), [None, 0, 1], [0])
        later = Row(8)
        self.assertEqual((later.things(), later.purse()), ([], 0))
        self.assertEqual(later.put(), (0, None, []))
        self.assertEqual(later.mark(0), 127)

    def told_of(self, wide):
        row = Row(wide)
        return [self.deed(row, step) for step in range(9)]

    def deed(self, row, step):
        if step in (5, 6):
            told = row.take(step - 4)
        else:
            told = row.put()
        return told, state(row)


if __name__ == "__main__":
    unittest.main()
