"""What several tests share."""

HUGE = 10 ** 3999



class Unasked:
    """A thing of no use: whoever compares, counts or shows it fails."""

    __hash__ = None

    def fail(self, *handed):
        raise AssertionError("a refused value was asked")

    __eq__ = __lt__ = __le__ = __gt__ = __ge__ = __bool__ = __index__ = __int__ = fail
    __len__ = __iter__ = __str__ = __repr__ = fail


# No number at all, of each kind that may be handed in.
NO_NUMBERS = [True, False, "", "0", "one", b"", b"0", [], [0], [[0]], (), (0,), (0, 1),
              {}, {0: 0}, set(), {0}, object(), Unasked(), len, int, ...]

# Numbers that are below or beyond all bounds.
FAR_NUMBERS = [-1, -2, -HUGE, HUGE]


def state(row):
    """All that a row tells of itself."""
    return [(thing, row.mark(thing)) for thing in row.things()], row.purse()


def marks(row):
    return [row.mark(thing) for thing in row.things()]


def row_of(row, puttings, takings=()):
    """The row behind these puttings and then these takings."""
    for one in puttings:
        row.put(one)
    for one in takings:
        row.take(one)
    return row
