"""What the tests share: Python's own fractions as the other way to reckon."""

from fractions import Fraction
from random import Random

NOUGHT = (0, 1)
ONE = (1, 1)
HALF = (1, 2)

# Things that are no fraction, no layer and no filled brine, whatever the full.
STRANGE = (
    None, True, False, 0, 1, -3, "", "12", "(1, 2)", b"", b"12", [], [1, 2], {}, {1: 2},
    set(), {1, 2}, frozenset((1, 2)), range(2), object(), int, len, Ellipsis,
    (1,), (1, 2, 3), (None, None), ("1", "2"), ((),), ((), ()), ([1], [2]),
    [[[[[[[[[[[[]]]]]]]]]]]], (((((((((((1,),),),),),),),),),),),
)


def pair(x):
    """A worth as the program writes it."""
    x = Fraction(x)
    return (x.numerator, x.denominator)


def worth(one):
    return Fraction(one[0], one[1])


def layer(water, salt):
    return (pair(water), pair(salt))


def small(rng, low=-10 ** 6, high=10 ** 6, most=1000):
    """A small fraction by 0.3."""
    return pair(Fraction(rng.randint(low, high), rng.randint(1, most)))


def great(rng):
    """A fraction far beyond the small ones, as sums and products tell them."""
    return pair(Fraction(rng.randint(-10 ** 60, 10 ** 60), rng.randint(1, 10 ** 50)))


def some_layer(rng, full, marks=None):
    """A layer for the full: fallen salt, rain water, full or one between."""
    kind = rng.randrange(8)
    water = Fraction(rng.randint(1, 60), rng.randint(1, 12))
    if kind == 0:
        return (NOUGHT, pair(water))
    if kind == 1:
        return (pair(water), NOUGHT)
    if kind == 2:
        return (pair(water), pair(worth(full) * water))
    by = Fraction(rng.randint(1, 6), 6) if marks is None else Fraction(rng.randint(1, marks), marks)
    return (pair(water), pair(worth(full) * by * water))


def laid_otherwise(layers):
    """Layers laid to a brine by Python's own fractions and sorting."""
    sums = {}
    for water, salt in layers:
        key = None if water == NOUGHT else worth(salt) / worth(water)
        before = sums.get(key, (0, 0))
        sums[key] = (before[0] + worth(water), before[1] + worth(salt))
    order = sorted((key for key in sums if key is not None), reverse=True)
    keys = ([None] if None in sums else []) + order
    return tuple((pair(sums[key][0]), pair(sums[key][1])) for key in keys)


def need_otherwise(brine, strength):
    """The need by the very words of 2.3."""
    parts = [worth(water) - worth(salt) / worth(strength) for water, salt in brine]
    return pair(sum((part for part in parts if part > 0), Fraction(0)))


def some_brine(rng, full, most=7, marks=None):
    many = rng.randint(0, most)
    return laid_otherwise([some_layer(rng, full, marks) for _ in range(many)])


def some_full(rng):
    return pair(Fraction(rng.randint(1, 30), rng.randint(1, 30)))


def rng_of(seed):
    return Random(seed)


def check_fraction(case, thing):
    """That a told thing is a pair of plain whole numbers in lowest terms."""
    case.assertIs(type(thing), tuple)
    case.assertEqual([type(part) for part in thing], [int, int])
    case.assertEqual(thing, pair(worth(thing)))


def check_brine(case, thing):
    """That a told thing is a row of pairs of fractions."""
    case.assertIs(type(thing), tuple)
    for part in thing:
        case.assertIs(type(part), tuple)
        case.assertEqual(len(part), 2)
        check_fraction(case, part[0])
        check_fraction(case, part[1])


def dried_otherwise(full, brine, water):
    """A brine dried step by step, by the very words of 3.1: (brine, gone)."""
    full, left, gone = worth(full), worth(water), Fraction(0)
    fallen = sum((worth(salt) for held, salt in brine if held == NOUGHT), Fraction(0))
    layers = [(worth(held), worth(salt)) for held, salt in brine if held != NOUGHT]
    while left > 0 and layers:
        held, salt = layers.pop()
        ahead = layers[-1][1] / layers[-1][0] if layers else full
        if salt == full * held:
            step = min(left, held)
            fallen, salt = fallen + full * step, salt - full * step
        else:
            step = min(left, held if salt == 0 else held - salt / ahead)
        held, left, gone = held - step, left - step, gone + step
        if held > 0 and layers and salt == ahead * held:
            held, salt = held + layers[-1][0], salt + layers.pop()[1]
        if held > 0:
            layers.append((held, salt))
    row = [(Fraction(0), fallen)] * (fallen > 0) + layers
    return tuple(layer(held, salt) for held, salt in row), pair(gone)


def rained_otherwise(brine, water):
    return laid_otherwise(brine + (((water, NOUGHT),) if worth(water) > 0 else ()))


def some_area(rng):
    return pair(Fraction(rng.randint(1, 12), rng.randint(1, 5)))


def some_spell(rng):
    return (pair(Fraction(rng.randint(1, 12), rng.randint(1, 4))), pair(Fraction(rng.randint(-8, 8), rng.randint(1, 4))))


def some_weather(rng, most=6):
    return tuple(some_spell(rng) for _ in range(rng.randint(1, most)))


def ends_of(weather):
    """The moment 0 and each spell's end, as worths."""
    ends = [Fraction(0)]
    for days, _ in weather:
        ends.append(ends[-1] + worth(days))
    return ends


def some_moment(rng, weather):
    """A moment of the weather, often 0, a spell's end or the last."""
    ends = ends_of(weather)
    if rng.randrange(3) == 0:
        return pair(rng.choice(ends))
    return pair(ends[-1] * Fraction(rng.randint(0, 24), 24))


def after_otherwise(full, area, brine, weather, moment, pieces=1):
    """Through a weather spell by spell, each in so many pieces: (brine, rained, gone)."""
    rain, gone, begin = Fraction(0), Fraction(0), Fraction(0)
    for days, net in weather:
        part = min(worth(days), worth(moment) - begin)
        begin += worth(days)
        for _ in range(pieces if part > 0 else 0):
            amount = worth(area) * worth(net) * part / pieces
            if amount > 0:
                brine, rain = rained_otherwise(brine, pair(amount)), rain + amount
            else:
                brine, went = dried_otherwise(full, brine, pair(-amount))
                gone += worth(went)
    return brine, pair(rain), pair(gone)


def water_otherwise(brine):
    return pair(sum((worth(held) for held, _ in brine), Fraction(0)))


def salt_otherwise(brine):
    return pair(sum((worth(salt) for _, salt in brine), Fraction(0)))


def fits_spans(spans, moment):
    """Whether a moment is within one of the spans."""
    return any(worth(begin) <= worth(moment) <= worth(end) for begin, end in spans)


def check_spans(case, spans, weather, is_so, more=()):
    """That spans stand as 5.3 says, and that just within them it is so."""
    ends = ends_of(weather)
    case.assertIs(type(spans), tuple)
    last = None
    for span in spans:
        case.assertIs(type(span), tuple)
        begin, end = span
        check_fraction(case, begin)
        check_fraction(case, end)
        case.assertTrue(0 <= worth(begin) <= worth(end) <= ends[-1], spans)
        case.assertTrue(last is None or worth(begin) > last, spans)
        last = worth(end)
    marks = sorted(set(ends) | {worth(one) for span in spans for one in span} | set(more))
    asked = marks + [(one + other) / 2 for one, other in zip(marks, marks[1:])]
    near = Fraction(1, 10 ** 9)
    asked += [one + by for one in marks for by in (-near, near) if 0 <= one + by <= ends[-1]]
    for moment in asked:
        case.assertIs(is_so(pair(moment)), fits_spans(spans, pair(moment)), (moment, spans))


def some_year(rng, full, most_spells=5, most_inflows=4):
    """A year whose inflows often share a moment or a spell's end."""
    weather = some_weather(rng, most_spells)
    inflows = []
    for _ in range(rng.randint(0, most_inflows)):
        water, salt = some_layer(rng, full)
        if water != NOUGHT:
            inflows.append((worth(some_moment(rng, weather)), water, salt))
    inflows.sort(key=lambda one: one[0])
    return (weather, tuple((pair(moment), water, salt) for moment, water, salt in inflows))


def between_otherwise(full, area, brine, weather, one, other):
    """From one moment to another, spell by spell; moments are worths."""
    for begin, (days, net) in zip(ends_of(weather), weather):
        part = min(begin + worth(days), other) - max(begin, one)
        if part > 0:
            brine = after_otherwise(full, area, brine, ((pair(part), net),), pair(part))[0]
    return brine


def part_otherwise(full, area, brine, year, moment, whole=False):
    """Through a year to a moment, inflow by inflow: those ahead of it, or all of the whole year's."""
    weather, inflows = year
    now = Fraction(0)
    for at, water, salt in inflows:
        if whole or worth(at) < worth(moment):
            brine = between_otherwise(full, area, brine, weather, now, worth(at))
            brine, now = laid_otherwise(brine + ((water, salt),)), worth(at)
    return between_otherwise(full, area, brine, weather, now, worth(moment))


def year_otherwise(full, area, brine, year):
    return part_otherwise(full, area, brine, year, pair(ends_of(year[0])[-1]), True)
