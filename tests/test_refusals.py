"""Point 1: what is handed in is refused as the interface says, and nothing changes by it."""

import unittest

from seatmarks.errors import BadWide, Full, NoThing, TooMany
from seatmarks.rows import Row
from seatmarks.stretches import is_too_full, spread, stretch_at
from tests.helpers import FAR_NUMBERS, HUGE, NO_NUMBERS, marks, row_of, state


class WideTest(unittest.TestCase):

    def test_bad_wides(self):
        for wide in NO_NUMBERS + FAR_NUMBERS + [None, 0, 1, 3, 61]:
            with self.assertRaises(BadWide):
                Row(wide)


class StretchesTest(unittest.TestCase):

    def test_is_too_full(self):
        for wrong in NO_NUMBERS + FAR_NUMBERS + [None]:
            for level, many in ((wrong, 1), (3, wrong), (wrong, wrong)):
                with self.assertRaises(BadWide):
                    is_too_full(level, many)
        for level, many in ((61, 1), (60, 2 ** 60 + 1), (0, 2 ** 60 + 1)):
            with self.assertRaises(BadWide):
                is_too_full(level, many)

    def test_stretch_at(self):
        for wrong in NO_NUMBERS + FAR_NUMBERS + [None]:
            for level, mark in ((wrong, 1), (3, wrong), (wrong, wrong)):
                with self.assertRaises(BadWide):
                    stretch_at(level, mark)
        for level, mark in ((61, 1), (60, 2 ** 60), (0, 2 ** 60)):
            with self.assertRaises(BadWide):
                stretch_at(level, mark)

    def test_spread(self):
        for wrong in NO_NUMBERS + FAR_NUMBERS + [None]:
            for level, start, many in ((wrong, 0, 1), (3, wrong, 1), (3, 0, wrong)):
                with self.assertRaises(BadWide):
                    spread(level, start, many)
        for level, start, many in ((61, 0, 1), (3, 2 ** 60, 1), (0, 0, 2), (3, 0, 9),
                                   (9, 0, 513), (10, 0, 1025), (11, 0, 1025), (60, 0, 1025)):
            with self.assertRaises(BadWide):
                spread(level, start, many)


class ThingTest(unittest.TestCase):

    def setUp(self):
        # Things 0 and 1 stand there, so that False and True are not refused by chance.
        self.row = row_of(Row(8), [None, 0, 1, 2], [2])
        self.before = state(self.row)
        self.wrong = NO_NUMBERS + FAR_NUMBERS + [2, 4, 5, 199, 200]

    def refuse(self, error, ask, *handed):
        with self.assertRaises(error) as held:
            ask(*handed)
        self.assertIs(type(held.exception), error)
        self.assertEqual(state(self.row), self.before)

    def tearDown(self):
        # No refusal has used up a number.
        self.assertEqual(self.row.put(1)[0], 4)

    def test_put(self):
        for wrong in self.wrong:
            self.refuse(NoThing, self.row.put, wrong)

    def test_take(self):
        for wrong in self.wrong + [None]:
            self.refuse(NoThing, self.row.take, wrong)

    def test_mark(self):
        for wrong in self.wrong + [None]:
            self.refuse(NoThing, self.row.mark, wrong)

    def test_is_ahead(self):
        for wrong in self.wrong + [None]:
            self.refuse(NoThing, self.row.is_ahead, wrong, 0)
            self.refuse(NoThing, self.row.is_ahead, 0, wrong)
            self.refuse(NoThing, self.row.is_ahead, wrong, wrong)


class EmptyRowTest(unittest.TestCase):

    def test_no_thing_is_there(self):
        row = Row(4)
        for wrong in NO_NUMBERS + FAR_NUMBERS + [0, 1]:
            for ask in (row.put, row.take, row.mark):
                with self.assertRaises(NoThing):
                    ask(wrong)
        self.assertEqual(state(row), ([], 0))
        self.assertEqual(row.put(), (0, None, []))


class OrderOfRefusalsTest(unittest.TestCase):

    def crowded(self):
        """A row of 200 things, with no room ahead of all and no stretch to be found."""
        row = row_of(Row(18), [None] * 18)
        for level in range(9, 19):
            while self.many_below(row, 2 ** level) + 1 <= 4 ** level // 3 ** level:
                row.put(self.ahead_of_most_room(row, 2 ** (level - 1) - 1, 2 ** level - 1))
        while len(row.things()) < 200:
            row.put(self.ahead_of_most_room(row, 0, 2 ** 18))
        return row

    def many_below(self, row, bound):
        return sum(1 for mark in marks(row) if mark < bound)

    def ahead_of_most_room(self, row, low, high):
        """The thing that bears a mark from low to below high and has most room behind it."""
        found = marks(row) + [2 ** 18]
        rooms = [(found[at + 1] - found[at], thing) for at, thing in enumerate(row.things())
                 if low <= found[at] < high]
        return max(rooms)[1]

    def check_refused(self, row, error, one):
        before = state(row)
        with self.assertRaises(error):
            row.put(one)
        self.assertEqual(state(row), before)

    def test_no_thing_then_too_many_then_full(self):
        row = self.crowded()
        for wrong in NO_NUMBERS + FAR_NUMBERS + [200]:
            self.check_refused(row, NoThing, wrong)
        self.check_refused(row, TooMany, None)
        self.check_refused(row, TooMany, row.things()[100])
        last = row.things()[-1]
        row.take(last)
        self.check_refused(row, NoThing, last)
        self.check_refused(row, Full, None)
        self.assertEqual(row.put(row.things()[-1]), (200, None, []))
        self.check_refused(row, TooMany, None)

    def test_no_thing_before_full(self):
        row = row_of(Row(4), [None] * 4)
        self.check_refused(row, Full, None)
        for wrong in NO_NUMBERS + [HUGE, -HUGE, 4]:
            self.check_refused(row, NoThing, wrong)


if __name__ == "__main__":
    unittest.main()
