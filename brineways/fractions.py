"""Fractions: pairs (a, b) of whole numbers in lowest terms, b from 1 on."""

from brineways.errors import NoFraction

NOUGHT = (0, 1)
ONE = (1, 1)


def is_whole(thing):
    """Whether a thing is a whole number; True and False are none."""
    return isinstance(thing, int) and not isinstance(thing, bool)


def common(a, b):
    """The greatest whole number that divides both; 0 only of two noughts."""
    while b != 0:
        a, b = b, a % b
    return abs(a)


def is_fraction(thing):
    """Whether anything is a fraction."""
    if not isinstance(thing, tuple) or len(thing) != 2:
        return False
    a, b = thing
    return is_whole(a) and is_whole(b) and b > 0 and common(a, b) == 1


def fraction(a, b):
    """The fraction a by b, of any two whole numbers."""
    if b == 0:
        raise NoFraction("nothing is divided by nought")
    shared = common(a, b) if b > 0 else -common(a, b)
    return (a // shared, b // shared)


def plus(one, other):
    """The sum of two fractions."""
    a, b = one
    c, d = other
    shared = common(b, d)
    top = a * (d // shared) + c * (b // shared)
    # What both bottoms share is all that can still divide the top, and it
    # stays small where long rows of small fractions are summed.
    again = common(top, shared)
    return (top // again, (b // shared) * (d // again))


def less(one, other):
    """One fraction less another."""
    c, d = other
    return plus(one, (-c, d))


def times(one, other):
    """The product of two fractions."""
    a, b = one
    c, d = other
    # Each is in lowest terms, so only across the two can anything cancel.
    left = common(a, d)
    right = common(c, b)
    return ((a // left) * (c // right), (b // right) * (d // left))


def over(one, other):
    """One fraction by another, which is not nought."""
    c, d = other
    if c == 0:
        raise NoFraction("nothing is divided by nought")
    return times(one, (d, c) if c > 0 else (-d, -c))


def is_less(one, other):
    """Whether one fraction is worth less than another."""
    a, b = one
    c, d = other
    return a * d < c * b


def is_positive(thing):
    """Whether anything is a fraction above 0."""
    return is_fraction(thing) and thing[0] > 0


def least(some):
    """The least of a row of one fraction or more."""
    best = some[0]
    for one in some:
        if is_less(one, best):
            best = one
    return best


def greatest(some):
    """The greatest of a row of one fraction or more."""
    best = some[0]
    for one in some:
        if is_less(best, one):
            best = one
    return best


def summed(some):
    """The sum of a row of fractions; nought of none."""
    total = NOUGHT
    for one in some:
        total = plus(total, one)
    return total


def floor(one):
    """The greatest whole number no greater than a fraction."""
    a, b = one
    return a // b


def merged(one, other):
    """Two rising rows of fractions as one rising row."""
    out = []
    at = 0
    for later in other:
        while at < len(one) and not is_less(later, one[at]):
            out.append(one[at])
            at += 1
        out.append(later)
    return tuple(out) + one[at:]


def rising(some):
    """The fractions of a row in the order of their worth."""
    if len(some) < 2:
        return tuple(some)
    half = len(some) // 2
    return merged(rising(some[:half]), rising(some[half:]))
