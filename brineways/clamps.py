"""Clamps: (by, low, high), which lead a fraction on and keep it between two."""

from brineways.counts import check_many
from brineways.fractions import floor, greatest, is_less, least, less, over, plus, times


def clamped(clamp, x):
    """What a clamp leads a fraction to."""
    by, low, high = clamp
    return least((high, greatest((low, plus(x, by)))))


def one_behind(first, second):
    """The clamp that is a first one and a second one behind it."""
    by, low, high = first
    return (plus(by, second[0]), clamped(second, low), clamped(second, high))


def many_times(clamp, many):
    """The clamp that is a clamp so many times, which are not gone through."""
    check_many(many, 1)
    by, low, high = clamp
    # From low to high a clamp goes one way only, so all times but the first are one step.
    others = (times(by, (many - 1, 1)), low, high)
    return (times(by, (many, 1)), clamped(others, low), clamped(others, high))


def first_time(clamp, x, goal):
    """The least number of times behind which x is led to a goal or above, or None."""
    if not is_less(x, goal):
        return 0
    by, low, high = clamp
    once = clamped(clamp, x)
    if not is_less(once, goal):
        return 1
    if by[0] <= 0 or is_less(high, goal):
        return None
    return 1 - floor(over(less(once, goal), by))
