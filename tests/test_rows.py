"""Points 2 and 4: widths, marks, numbers, takings, and puttings where there is room."""

import unittest

from seatmarks.errors import BadWide, NoThing, TooMany
from seatmarks.rows import Row
from tests.helpers import marks, row_of, state


class WideTest(unittest.TestCase):

    def test_least_and_most(self):
        self.assertEqual(marks(row_of(Row(4), [None])), [7])
        self.assertEqual(marks(row_of(Row(60), [None])), [2 ** 59 - 1])

    def test_below_and_beyond(self):
        for wide in (3, 61):
            with self.assertRaises(BadWide):
                Row(wide)

    def test_every_width(self):
        for wide in range(4, 61):
            row = Row(wide)
            for _ in range(wide + 1):
                row.put(row.things()[-1] if row.things() else None)
            self.assertEqual(marks(row)[-1], 2 ** wide - 1)
            row = row_of(Row(wide), [None] * wide)
            self.assertEqual(marks(row)[0], 0)


class NumbersTest(unittest.TestCase):

    def test_from_0_on_as_they_are_put(self):
        row = Row(10)
        self.assertEqual([row.put(one)[0] for one in (None, None, 0, 1)], [0, 1, 2, 3])
        self.assertEqual(row.things(), [1, 3, 0, 2])

    def test_not_given_again(self):
        row = row_of(Row(10), [None, 0, 1], [2, 0])
        self.assertEqual(row.put(1)[0], 3)
        row.take(3)
        row.take(1)
        self.assertEqual(row.things(), [])
        self.assertEqual(row.put()[0], 4)
        with self.assertRaises(NoThing):
            row.mark(3)

    def test_200_things_and_one_more(self):
        row = Row(60)
        for number in range(200):
            self.assertEqual(row.put(number // 2 if number else None)[0], number)
        before = state(row)
        for one in (None, 0, 199):
            with self.assertRaises(TooMany):
                row.put(one)
        self.assertEqual(state(row), before)
        row.take(77)
        self.assertEqual(row.put(199)[0], 200)
        self.assertEqual(len(row.things()), 200)
        with self.assertRaises(TooMany):
            row.put()


class TakeTest(unittest.TestCase):

    def test_take_leaves_the_others(self):
        row = row_of(Row(6), [None, 0, 1])
        self.assertEqual(marks(row), [31, 47, 55])
        self.assertIsNone(row.take(1))
        self.assertEqual(state(row), ([(0, 31), (2, 55)], 144))

    def test_a_taken_thing_is_gone(self):
        row = row_of(Row(6), [None, 0, 1], [1])
        for ask in (row.mark, row.take, row.put):
            with self.assertRaises(NoThing):
                ask(1)
        with self.assertRaises(NoThing):
            row.is_ahead(0, 1)

    def test_room_is_taken_again(self):
        row = row_of(Row(6), [None, 0, 1], [1])
        self.assertEqual(row.put(0), (3, None, []))
        self.assertEqual(row.mark(3), 43)


class IsAheadTest(unittest.TestCase):

    def test_as_they_stand(self):
        row = row_of(Row(10), [None, 0, 0, None, 2], [1])
        things = row.things()
        for at, one in enumerate(things):
            for where, other in enumerate(things):
                self.assertIs(row.is_ahead(one, other), at < where)


class WhereThereIsRoomTest(unittest.TestCase):

    def check(self, row, one, mark):
        before = {thing: row.mark(thing) for thing in row.things()}
        number, stretch, changed = row.put(one)
        self.assertEqual((stretch, changed), (None, []))
        self.assertEqual(row.mark(number), mark)
        self.assertEqual({thing: row.mark(thing) for thing in before}, before)
        self.assertEqual(marks(row), sorted(marks(row)))

    def test_nothing_ahead(self):
        row = Row(5)
        for mark in (15, 7, 3, 1, 0):
            self.check(row, None, mark)

    def test_nothing_behind(self):
        row = Row(5)
        self.check(row, None, 15)
        for one, mark in enumerate((23, 27, 29, 30, 31)):
            self.check(row, one, mark)

    def test_between_two(self):
        row = row_of(Row(5), [None, 0])
        for mark in (19, 17, 16):
            self.check(row, 0, mark)
        self.assertEqual(row.things(), [0, 4, 3, 2, 1])

    def test_odd_sums_give_the_lesser_half(self):
        row = row_of(Row(5), [None, 0, 0, 0, 0], [3])
        self.assertEqual(state(row)[0], [(0, 15), (4, 16), (2, 19), (1, 23)])
        self.check(row, 4, 17)
        self.check(row, 1, 27)
        row = row_of(Row(5), [None, 0, 0, 0, 0], [0, 1, 2, 3])
        self.assertEqual(state(row)[0], [(4, 16)])
        self.check(row, None, 7)
        row = row_of(Row(5), [None] * 5, [0, 1, 2, 4])
        self.assertEqual(state(row)[0], [(3, 1)])
        self.check(row, 3, 16)

    def test_just_2_apart_and_just_1_apart(self):
        row = row_of(Row(5), [None, 0, 0, 0])
        self.assertEqual(marks(row), [15, 17, 19, 23])
        self.check(row, 0, 16)
        row.take(1)
        row.take(2)
        row.take(3)
        self.assertEqual(marks(row), [15, 16])
        self.assertEqual(row.put(0), (5, (3, 8), [(0, 8)]))

    def test_just_2_apart_and_just_1_apart_at_the_ends(self):
        row = row_of(Row(5), [None] * 4, [0, 1, 2])
        self.assertEqual(marks(row), [1])
        self.check(row, None, 0)
        self.assertEqual(row.put()[1:], ((4, 0), [(4, 5), (3, 10)]))
        row = row_of(Row(5), [None, 0, 1, 2, 3], [0, 1, 2, 3])
        self.assertEqual(marks(row), [30])
        self.check(row, 4, 31)
        self.assertEqual(row.put(5)[1:], ((4, 16), [(4, 16), (5, 21)]))


if __name__ == "__main__":
    unittest.main()
