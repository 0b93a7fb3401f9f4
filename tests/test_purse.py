"""Point 6: the purse."""

import unittest

from seatmarks.errors import Full, NoThing, TooMany
from seatmarks.rows import Row
from tests.helpers import row_of


class PurseTest(unittest.TestCase):

    def test_empty_at_first(self):
        for wide in (4, 60):
            self.assertEqual(Row(wide).purse(), 0)

    def test_without_a_spreading(self):
        for wide in (4, 5, 33, 60):
            row = Row(wide)
            for times in range(1, 4):
                row.put()
                self.assertEqual(row.purse(), 8 * wide * times)

    def test_with_a_spreading(self):
        row = row_of(Row(5), [None] * 5, [1, 2])
        self.assertEqual(row.purse(), 200)
        self.assertEqual(len(row.put()[2]), 3)
        self.assertEqual(row.purse(), 237)

    def test_what_keeps_its_mark_costs_nothing(self):
        row = row_of(Row(4), [None] * 4, [0, 1])
        self.assertEqual(row.purse(), 128)
        self.assertEqual(row.put(3), (4, (4, 0), [(2, 10)]))
        self.assertEqual(row.purse(), 159)

    def test_takings_cost_nothing(self):
        row = row_of(Row(8), [None, 0, 1])
        for one in (1, 0, 2):
            row.take(one)
            self.assertEqual(row.purse(), 192)

    def test_refused_puttings_pay_nothing(self):
        row = row_of(Row(4), [None] * 4)
        for error, one in ((Full, None), (NoThing, 9), (NoThing, True), (NoThing, [])):
            with self.assertRaises(error):
                row.put(one)
            self.assertEqual(row.purse(), 128)
        row = row_of(Row(60), [None] * 200)
        before = row.purse()
        with self.assertRaises(TooMany):
            row.put()
        self.assertEqual(row.purse(), before)

    def test_never_below_nought(self):
        for wide in (4, 5, 8, 12, 18, 19, 20, 24):
            for head in (True, False):
                self.press(wide, head)

    def press(self, wide, head):
        """Put at one end, over and over, and make room where a putting is refused."""
        row = Row(wide)
        for _ in range(400):
            before = row.purse()
            things = row.things()
            try:
                told = row.put(None if head or not things else things[-1])
                self.assertEqual(row.purse(), before + 8 * wide - len(told[2]))
            except (Full, TooMany):
                for one in things[::3]:
                    row.take(one)
                self.assertEqual(row.purse(), before)
            self.assertGreaterEqual(row.purse(), 0)


if __name__ == "__main__":
    unittest.main()
