"""Rows of things that bear marks."""

from seatmarks.bounds import check_within
from seatmarks.errors import Full, NoThing, TooMany
from seatmarks.stretches import is_too_full, spread, stretch_at

LEAST_WIDE = 4
MOST_WIDE = 60
MOST_THINGS = 200
PAID_FOR_EACH_WIDE = 8


class Row:
    """A row of things whose marks rise from its head to its end."""

    def __init__(self, wide):
        check_within(wide, LEAST_WIDE, MOST_WIDE)
        self._wide = wide
        self._order = []
        self._marks = {}
        self._given = 0
        self._purse = 0

    def put(self, one=None):
        """Put a new thing right behind one, or ahead of all; tell (number, stretch, changed)."""
        place = self._place_behind(one)
        if len(self._order) >= MOST_THINGS:
            raise TooMany("the row has as many things as it may have")
        number = self._given
        order = self._order[:place] + [number] + self._order[place:]
        ahead, behind = self._marks_around(place)
        # All that may be refused is worked out before the row is changed.
        if behind - ahead >= 2:
            stretch = None
            marked = [(number, (ahead + behind) // 2)]
        else:
            # Ahead of all there is no mark to look from; the first stretches begin at 0.
            stretch = self._stretch_to_spread(max(ahead, 0))
            marked = self._spread_marks(stretch, order, number)
        changed = [(thing, mark) for thing, mark in marked
                   if thing != number and self._marks[thing] != mark]
        for thing, mark in marked:
            self._marks[thing] = mark
        self._order = order
        self._given = number + 1
        self._purse = self._purse + PAID_FOR_EACH_WIDE * self._wide - len(changed)
        return number, stretch, changed

    def take(self, one):
        """Take a thing out of the row."""
        self._check_thing(one)
        self._order.remove(one)
        del self._marks[one]

    def things(self):
        """Tell the things in the row's order."""
        return list(self._order)

    def mark(self, one):
        """Tell the mark of a thing."""
        self._check_thing(one)
        return self._marks[one]

    def is_ahead(self, one, other):
        """Tell whether one stands ahead of the other."""
        self._check_thing(one)
        self._check_thing(other)
        return self._marks[one] < self._marks[other]

    def purse(self):
        """Tell what is in the purse."""
        return self._purse

    def _check_thing(self, one):
        # The kind comes first: True is a key like 1, and lists cannot be looked up.
        if type(one) is not int or one not in self._marks:
            raise NoThing("no such thing in the row")

    def _place_behind(self, one):
        if one is None:
            return 0
        self._check_thing(one)
        return self._order.index(one) + 1

    def _marks_around(self, place):
        """Tell the marks between which a thing at this place is put."""
        ahead = -1
        if place > 0:
            ahead = self._marks[self._order[place - 1]]
        behind = 1 << self._wide
        if place < len(self._order):
            behind = self._marks[self._order[place]]
        return ahead, behind

    def _stretch_to_spread(self, mark):
        """Tell the least stretch around the mark that bears one more thing."""
        for level in range(self._wide + 1):
            first = stretch_at(level, mark)
            many = len([thing for thing in self._order if self._lies_in(thing, level, first)])
            if not is_too_full(level, many + 1):
                return level, first
        raise Full("no stretch bears one more thing")

    def _spread_marks(self, stretch, order, number):
        """Tell each thing of the stretch, the new one too, with its mark behind the spreading."""
        level, first = stretch
        inside = [thing for thing in order if thing == number or self._lies_in(thing, level, first)]
        return list(zip(inside, spread(level, first, len(inside))))

    def _lies_in(self, thing, level, first):
        mark = self._marks[thing]
        return first <= mark < first + (1 << level)
