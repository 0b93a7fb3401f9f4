"""Points 1 to 6 together: the program beside a second telling of the document."""

import itertools
import random
import unittest

from seatmarks.errors import SeatError
from seatmarks.rows import Row
from tests.helpers import marks
from tests.model import ModelRow, Refused


def told_by(ask, *handed):
    """What is told, or the name of the refusal."""
    try:
        return ask(*handed)
    except SeatError as refusal:
        return type(refusal).__name__
    except Refused as refusal:
        return str(refusal)


class Pair:
    """A row and its model, to which the same is done."""

    def __init__(self, test, wide):
        self.test = test
        self.row = Row(wide)
        self.model = ModelRow(wide)

    def put(self, one):
        self.same(told_by(self.row.put, one), told_by(self.model.put, one))

    def take(self, one):
        self.same(told_by(self.row.take, one), told_by(self.model.take, one))

    def same(self, told, wanted):
        self.test.assertEqual(told, wanted)
        found = marks(self.row)
        self.test.assertEqual(self.row.things(), self.model.things())
        self.test.assertEqual(found, self.model.marks())
        self.test.assertEqual(self.row.purse(), self.model.purse)
        self.test.assertEqual(found, sorted(set(found)))
        self.test.assertGreaterEqual(self.row.purse(), 0)


class AllShortRunsTest(unittest.TestCase):

    def test_every_run_of_puttings_and_takings(self):
        """At width 4 from a head that is nearly used up, so that spreadings are near."""
        for places in itertools.product(range(8), repeat=4):
            pair = Pair(self, 4)
            for _ in range(3):
                pair.put(None)
            for place in places:
                things = pair.row.things()
                if place % 2 and things:
                    pair.take(things[place // 2 % len(things)])
                else:
                    pair.put(([None] + things)[place // 2 % (len(things) + 1)])


class LongRunsTest(unittest.TestCase):

    def run_of(self, wide, seed, steps, takings):
        chance = random.Random(seed)
        pair = Pair(self, wide)
        for _ in range(steps):
            things = pair.row.things()
            if chance.randrange(100) < takings and things:
                pair.take(chance.choice(things))
            else:
                # Most puttings are near the head of the row, so that marks soon lack there.
                near = ([None] + things)[:3]
                pair.put(chance.choice(near if chance.randrange(4) else [None] + things))

    def test_every_width(self):
        for wide in range(4, 61):
            self.run_of(wide, wide, 60, 25)

    def test_until_there_are_too_many(self):
        for wide in (12, 18, 19, 20, 26, 60):
            self.run_of(wide, wide, 320, 4)

    def test_many_takings(self):
        for wide in (4, 5, 6, 7, 8):
            self.run_of(wide, wide, 400, 45)


if __name__ == "__main__":
    unittest.main()
