"""Point 5: which stretch is spread, the new marks, what is told as changed, and refusals."""

import unittest

from seatmarks.errors import Full
from seatmarks.rows import Row
from tests.helpers import marks, row_of, state


class WhichStretchTest(unittest.TestCase):

    def test_least_level_that_bears_one_more(self):
        row = row_of(Row(4), [None, 0, 0, 0], [1, 2])
        self.assertEqual(state(row)[0], [(0, 7), (3, 8)])
        self.assertEqual(row.put(0), (4, (3, 0), [(0, 0)]))
        self.assertEqual(state(row)[0], [(0, 0), (4, 4), (3, 8)])

    def test_of_the_thing_ahead_not_of_the_one_behind(self):
        row = row_of(Row(6), [None, 0, 0, 0, 0, 0], [1, 2, 3, 4])
        self.assertEqual(state(row)[0], [(0, 31), (5, 32)])
        self.assertEqual(row.put(0), (6, (3, 24), [(0, 24)]))
        self.assertEqual(state(row)[0], [(0, 24), (6, 28), (5, 32)])

    def test_ahead_of_all_the_stretches_begin_at_0(self):
        row = row_of(Row(5), [None] * 5, [1, 2])
        self.assertEqual(state(row)[0], [(4, 0), (3, 1), (0, 15)])
        self.assertEqual(row.put(), (5, (5, 0), [(4, 8), (3, 16), (0, 24)]))
        self.assertEqual(state(row)[0], [(5, 0), (4, 8), (3, 16), (0, 24)])

    def test_behind_the_last(self):
        row = row_of(Row(6), [None, 0, 1, 2, 3, 4, 5], [0, 1, 2, 3, 4])
        self.assertEqual(state(row)[0], [(5, 62), (6, 63)])
        self.assertEqual(row.put(6), (7, (4, 48), [(5, 48), (6, 53)]))
        self.assertEqual(state(row)[0], [(5, 48), (6, 53), (7, 58)])

    def test_things_beyond_the_stretch_stay(self):
        row = row_of(Row(6), [None, 0, 0, 0, 0, 0], [2, 3, 4])
        row.put()
        self.assertEqual(state(row)[0], [(6, 15), (0, 31), (5, 32), (1, 47)])
        self.assertEqual(row.put(0), (7, (3, 24), [(0, 24)]))
        self.assertEqual(state(row)[0], [(6, 15), (0, 24), (7, 28), (5, 32), (1, 47)])


class ChangedTest(unittest.TestCase):

    def test_what_keeps_its_mark_is_not_told(self):
        row = row_of(Row(4), [None] * 4, [0, 1])
        self.assertEqual(state(row)[0], [(3, 0), (2, 1)])
        self.assertEqual(row.put(3), (4, (4, 0), [(2, 10)]))
        self.assertEqual(state(row)[0], [(3, 0), (4, 5), (2, 10)])

    def test_in_the_rows_order(self):
        row = row_of(Row(5), [None] * 5, [1, 2])
        changed = row.put()[2]
        self.assertEqual([thing for thing, _ in changed], [4, 3, 0])
        for thing, mark in changed:
            self.assertEqual(row.mark(thing), mark)


class FullTest(unittest.TestCase):

    def test_no_stretch_at_the_least_width(self):
        row = row_of(Row(4), [None] * 4)
        before = state(row)
        self.assertEqual(before, ([(3, 0), (2, 1), (1, 3), (0, 7)], 128))
        for one in (None, 3):
            with self.assertRaises(Full):
                row.put(one)
            self.assertEqual(state(row), before)
        self.assertEqual(row.put(0), (4, None, []))
        row.take(0)
        row.take(4)
        with self.assertRaises(Full):
            row.put()
        row.take(1)
        self.assertEqual(row.put(), (5, (4, 0), [(3, 5), (2, 10)]))

    def test_there_is_room_though_no_stretch_bears_one_more(self):
        row = Row(4)
        row.put()
        for _ in range(3):
            for one in [None] + row.things():
                row.put(one)
        self.assertEqual(len(row.things()), 15)
        self.assertEqual(marks(row), list(range(15)))
        self.assertEqual(row.put(row.things()[-1])[1:], (None, []))
        self.assertEqual(marks(row), list(range(16)))
        before = state(row)
        for one in [None] + row.things():
            with self.assertRaises(Full):
                row.put(one)
        self.assertEqual(state(row), before)
        row.take(0)
        self.assertEqual(row.put(row.things()[6])[0], 16)

    def test_the_stretch_of_the_level_of_the_width(self):
        for wide in range(4, 13):
            row = Row(wide)
            most = 4 ** wide // 3 ** wide
            with self.assertRaises(Full):
                while True:
                    row.put()
            self.assertGreaterEqual(len(row.things()), most)
            while len(row.things()) >= most:
                row.take(row.things()[-1])
            row.put()
            self.assertEqual(len(row.things()), most)


class ManyPuttingsTest(unittest.TestCase):

    def check_rising(self, row, wide):
        found = marks(row)
        self.assertEqual(found, sorted(set(found)))
        self.assertGreaterEqual(found[0], 0)
        self.assertLess(found[-1], 2 ** wide)

    def put_200(self, wide, place):
        row = Row(wide)
        spreadings = 0
        for number in range(200):
            one = place(row.things())
            told = row.put(one)
            self.assertEqual(told[0], number)
            spreadings += told[1] is not None
            self.check_rising(row, wide)
        return row, spreadings

    def test_ahead_of_all(self):
        for wide in (19, 30, 60):
            row, spreadings = self.put_200(wide, lambda things: None)
            self.assertEqual(row.things(), list(range(199, -1, -1)))
            self.assertGreater(spreadings, 0)

    def test_behind_the_last(self):
        for wide in (19, 30, 60):
            row, spreadings = self.put_200(wide, lambda things: things[-1] if things else None)
            self.assertEqual(row.things(), list(range(200)))
            self.assertGreater(spreadings, 0)

    def test_behind_the_first(self):
        for wide in (19, 30, 60):
            row, spreadings = self.put_200(wide, lambda things: 0 if things else None)
            self.assertEqual(row.things(), [0] + list(range(199, 0, -1)))
            self.assertGreater(spreadings, 0)


if __name__ == "__main__":
    unittest.main()
