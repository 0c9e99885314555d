"""What the tests share: Python's own fractions as the other way to reckon."""

from fractions import Fraction
from random import Random

NOUGHT = (0, 1)
ONE = (1, 1)
HALF = (1, 2)

# Things that are no fraction, no layer and no filled brine, whatever the full.
STRANGE = (
    None, True, False, 0, 1, -3, "", "12", "(1, 2)", b"", b"12", [], [1, 2], {}, {1: 2},
    set(), {1, 2}, frozenset((1, 2)), range(2), object(), int, len, Ellipsis,
    (1,), (1, 2, 3), (None, None), ("1", "2"), ((),), ((), ()), ([1], [2]),
    [[[[[[[[[[[[]]]]]]]]]]]], (((((((((((1,),),),),),),),),),),),
)


def pair(x):
    """A worth as the program writes it."""
    x = Fraction(x)
    return (x.numerator, x.denominator)


def worth(one):
    return Fraction(one[0], one[1])


def layer(water, salt):
    return (pair(water), pair(salt))


def small(rng, low=-10 ** 6, high=10 ** 6, most=1000):
    """A small fraction by 0.3."""
    return pair(Fraction(rng.randint(low, high), rng.randint(1, most)))


def great(rng):
    """A fraction far beyond the small ones, as sums and products tell them."""
    return pair(Fraction(rng.randint(-10 ** 60, 10 ** 60), rng.randint(1, 10 ** 50)))


def some_layer(rng, full, marks=None):
    """A layer for the full: fallen salt, rain water, full or one between."""
    kind = rng.randrange(8)
    water = Fraction(rng.randint(1, 60), rng.randint(1, 12))
    if kind == 0:
        return (NOUGHT, pair(water))
    if kind == 1:
        return (pair(water), NOUGHT)
    if kind == 2:
        return (pair(water), pair(worth(full) * water))
    by = Fraction(rng.randint(1, 6), 6) if marks is None else Fraction(rng.randint(1, marks), marks)
    return (pair(water), pair(worth(full) * by * water))


def laid_otherwise(layers):
    """Layers laid to a brine by Python's own fractions and sorting."""
    sums = {}
    for water, salt in layers:
        key = None if water == NOUGHT else worth(salt) / worth(water)
        before = sums.get(key, (0, 0))
        sums[key] = (before[0] + worth(water), before[1] + worth(salt))
    order = sorted((key for key in sums if key is not None), reverse=True)
    keys = ([None] if None in sums else []) + order
    return tuple((pair(sums[key][0]), pair(sums[key][1])) for key in keys)


def need_otherwise(brine, strength):
    """The need by the very words of 2.3."""
    parts = [worth(water) - worth(salt) / worth(strength) for water, salt in brine]
    return pair(sum((part for part in parts if part > 0), Fraction(0)))


def some_brine(rng, full, most=7, marks=None):
    many = rng.randint(0, most)
    return laid_otherwise([some_layer(rng, full, marks) for _ in range(many)])


def some_full(rng):
    return pair(Fraction(rng.randint(1, 30), rng.randint(1, 30)))


def rng_of(seed):
    return Random(seed)


def check_fraction(case, thing):
    """That a told thing is a pair of plain whole numbers in lowest terms."""
    case.assertIs(type(thing), tuple)
    case.assertEqual([type(part) for part in thing], [int, int])
    case.assertEqual(thing, pair(worth(thing)))


def check_brine(case, thing):
    """That a told thing is a row of pairs of fractions."""
    case.assertIs(type(thing), tuple)
    for part in thing:
        case.assertIs(type(part), tuple)
        case.assertEqual(len(part), 2)
        check_fraction(case, part[0])
        check_fraction(case, part[1])
