"""Times, and stretches of time: tuples (low, size), the size a power of two, the low a multiple of it."""

from pastdesk.wholes import is_whole

# 2 ** 30, the number of all times: the first number behind them, and the size of the greatest stretch.
ALL_TIMES = 1073741824


def is_time(thing):
    return is_whole(thing) and 0 <= thing < ALL_TIMES


def last_time(stretch):
    return stretch[0] + stretch[1] - 1


def holds(stretch, number):
    return stretch[0] <= number <= last_time(stretch)


def within(one, other):
    # A stretch has no gaps, so what holds its two ends holds all of it.
    return holds(other, one[0]) and holds(other, last_time(one))


def halves(stretch):
    low = stretch[0]
    half = stretch[1] // 2
    return ((low, half), (low + half, half))


def least(one, other):
    first = min(one[0], other[0])
    last = max(last_time(one), last_time(other))
    # The times of a stretch of size 2 ** k are alike in all bits but the lowest k, so the highest
    # bit in which the first and the last one differ tells the least size that takes in both.
    size = 1 << (first ^ last).bit_length()
    return (first // size * size, size)


def cover(end):
    # The greatest stretch that still fits is always the next one: what is left
    # behind it is less than its size, so each size comes once at most.
    parts = []
    low = 0
    size = ALL_TIMES
    while size > 0:
        if low + size <= end:
            parts.append((low, size))
            low = low + size
        size = size // 2
    return parts
