"""Stretches of marks: where they begin, how many things they bear, how things are spread."""

from seatmarks.bounds import check_within

MOST_LEVEL = 60
MOST_SPREAD = 1024


def is_too_full(level, many):
    """Tell whether so many things are too many for a stretch of this level."""
    check_within(level, 0, MOST_LEVEL)
    check_within(many, 0, 1 << MOST_LEVEL)
    return many * power(3, level) > power(4, level)


def stretch_at(level, mark):
    """Tell the first mark of the stretch of this level in which the mark lies."""
    check_within(level, 0, MOST_LEVEL)
    check_within(mark, 0, (1 << MOST_LEVEL) - 1)
    size = 1 << level
    return mark // size * size


def spread(level, start, many):
    """Tell the marks of so many things that are spread over the stretch from start on."""
    check_within(level, 0, MOST_LEVEL)
    check_within(start, 0, (1 << MOST_LEVEL) - 1)
    size = 1 << level
    check_within(many, 0, min(size, MOST_SPREAD))
    return [start + size * place // many for place in range(many)]


def power(base, times):
    found = 1
    for _ in range(times):
        found = found * base
    return found
