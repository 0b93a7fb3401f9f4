"""A second, plain telling of the document, to compare the program with."""

from fractions import Fraction


class Refused(Exception):
    pass


class ModelRow:
    """A row kept as one list of [thing, mark]."""

    def __init__(self, wide):
        self.wide = wide
        self.pairs = []
        self.given = 0
        self.purse = 0

    def things(self):
        return [thing for thing, _ in self.pairs]

    def marks(self):
        return [mark for _, mark in self.pairs]

    def take(self, one):
        if one not in self.things():
            raise Refused("NoThing")
        self.pairs = [pair for pair in self.pairs if pair[0] != one]

    def put(self, one):
        if one is not None and one not in self.things():
            raise Refused("NoThing")
        if len(self.pairs) == 200:
            raise Refused("TooMany")
        place = 0 if one is None else self.things().index(one) + 1
        low = self.pairs[place - 1][1] if place else -1
        high = self.pairs[place][1] if place < len(self.pairs) else 2 ** self.wide
        if high - low >= 2:
            told = self.put_between(place, low, high)
        else:
            told = self.put_spread(place, 0 if one is None else low)
        self.given += 1
        self.purse += 8 * self.wide - len(told[2])
        return told

    def put_between(self, place, low, high):
        self.pairs.insert(place, [self.given, (low + high) // 2])
        return self.given, None, []

    def put_spread(self, place, around):
        for level in range(self.wide + 1):
            size = 2 ** level
            first = around - around % size
            many = 1 + sum(1 for mark in self.marks() if mark // size == first // size)
            if many <= Fraction(4, 3) ** level:
                return self.put_in_stretch(place, level, first, many)
        raise Refused("Full")

    def put_in_stretch(self, place, level, first, many):
        size = 2 ** level
        self.pairs.insert(place, [self.given, None])
        changed = []
        seat = 0
        for pair in self.pairs:
            if pair[1] is None or first <= pair[1] < first + size:
                mark = first + int(Fraction(size * seat, many))
                if pair[1] is not None and pair[1] != mark:
                    changed.append((pair[0], mark))
                pair[1] = mark
                seat += 1
        return self.given, (level, first), changed
