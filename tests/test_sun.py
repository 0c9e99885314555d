"""Sun and rain (3.1 to 3.3)."""

import unittest
from fractions import Fraction

from brineways.brines import is_brine, laid, need, salt_of, strengths, water_of
from brineways.errors import NoWater
from brineways.sun import dried, dried_right, rained
from support import (
    HALF, NOUGHT, ONE, STRANGE, check_brine, check_fraction, dried_otherwise, layer, need_otherwise, pair,
    rained_otherwise, rng_of, small, some_brine, some_full, water_otherwise, worth,
)

FULL = (1, 3)
FALLEN = layer(0, 2)
RAIN = layer(7, 0)
# Need for 1/5: 7; for 1/4: 8; for 1/3: 10; all water: 19.
BRINE = (FALLEN, layer(3, 1), layer(4, 1), layer(5, 1), RAIN)
BELOW = ((-1, 1), (-1, 1000), (-10 ** 6, 1), (-10 ** 40, 7))


def some_water(rng, full, brine):
    """Amounts to dry by: 0, small ones, each edge that the brine has, and more than all."""
    edges = [worth(need_otherwise(brine, one)) for one in (full,) + strengths(brine)]
    whole = worth(water_otherwise(brine))
    edges += [Fraction(0), whole, whole + 1, whole * Fraction(rng.randint(0, 40), 40)]
    edges += [sum((worth(held) for held, salt in brine if salt == NOUGHT), Fraction(0))]
    edge = rng.choice(edges)
    by = rng.choice((Fraction(0), Fraction(0), Fraction(1, 100), Fraction(-1, 100)))
    return pair(max(Fraction(0), edge + by))


class Dried(unittest.TestCase):
    def test_by_nought(self):
        for brine in ((), (FALLEN,), (RAIN,), (layer(3, 1),), (layer(4, 1),), BRINE):
            self.assertEqual(dried(FULL, brine, NOUGHT), (brine, NOUGHT))

    def test_rain_water_goes_first(self):
        self.assertEqual(dried(FULL, BRINE, (2, 1)), (BRINE[:-1] + (layer(5, 0),), (2, 1)))
        self.assertEqual(dried(FULL, BRINE, (6999, 1000)), (BRINE[:-1] + (layer("1/1000", 0),), (6999, 1000)))
        self.assertEqual(dried(FULL, BRINE, (7, 1)), (BRINE[:-1], (7, 1)))

    def test_then_the_weakest_layer(self):
        self.assertEqual(dried(FULL, BRINE, (15, 2)), (BRINE[:3] + (layer("9/2", 1),), (15, 2)))

    def test_just_so_far_that_two_become_one(self):
        self.assertEqual(dried(FULL, BRINE, (8, 1)), ((FALLEN, layer(3, 1), layer(8, 2)), (8, 1)))
        self.assertEqual(dried(FULL, BRINE, (9, 1)), ((FALLEN, layer(3, 1), layer(7, 2)), (9, 1)))

    def test_to_the_full_strength_and_beyond(self):
        self.assertEqual(dried(FULL, BRINE, (10, 1)), ((FALLEN, layer(9, 3)), (10, 1)))
        self.assertEqual(dried(FULL, BRINE, (13, 1)), ((layer(0, 3), layer(6, 2)), (13, 1)))
        self.assertEqual(dried(FULL, BRINE, (37, 2)), ((layer(0, "29/6"), layer("1/2", "1/6")), (37, 2)))

    def test_all_water_and_more(self):
        for water in ((19, 1), (19001, 1000), (10 ** 6, 1)):
            self.assertEqual(dried(FULL, BRINE, water), ((layer(0, 5),), (19, 1)))

    def test_where_there_is_no_full_layer_yet(self):
        self.assertEqual(dried(FULL, (layer(4, 1),), HALF), ((layer("7/2", 1),), HALF))
        self.assertEqual(dried(FULL, (layer(4, 1),), ONE), ((layer(3, 1),), ONE))
        self.assertEqual(dried(FULL, (layer(4, 1),), (5, 2)), ((layer(0, "1/2"), layer("3/2", "1/2")), (5, 2)))

    def test_where_there_is_no_water_or_no_salt(self):
        self.assertEqual(dried(FULL, (), (5, 1)), ((), NOUGHT))
        self.assertEqual(dried(FULL, (FALLEN,), (5, 1)), ((FALLEN,), NOUGHT))
        self.assertEqual(dried(FULL, (RAIN,), (5, 1)), ((layer(2, 0),), (5, 1)))
        self.assertEqual(dried(FULL, (RAIN,), (7, 1)), ((), (7, 1)))
        self.assertEqual(dried(FULL, (RAIN,), (8, 1)), ((), (7, 1)))
        self.assertEqual(dried(FULL, (FALLEN, RAIN), (8, 1)), ((FALLEN,), (7, 1)))

    def test_water_below_nought(self):
        for water in BELOW:
            for brine in ((), BRINE):
                with self.assertRaises(NoWater):
                    dried(FULL, brine, water)

    def test_many(self):
        rng = rng_of(41)
        for _ in range(400):
            full = some_full(rng)
            brine = some_brine(rng, full)
            water = some_water(rng, full, brine)
            told = dried(full, brine, water)
            self.assertEqual(told, dried_otherwise(full, brine, water))
            self.assertIs(type(told), tuple)
            check_brine(self, told[0])
            check_fraction(self, told[1])

    def test_salt_water_and_needs(self):
        rng = rng_of(42)
        for _ in range(200):
            full = some_full(rng)
            brine = some_brine(rng, full)
            water = some_water(rng, full, brine)
            left, gone = dried(full, brine, water)
            self.assertIs(is_brine(full, left), True)
            self.assertEqual(salt_of(left), salt_of(brine))
            self.assertEqual(gone, pair(min(worth(water), worth(water_of(brine)))))
            self.assertEqual(worth(water_of(left)), worth(water_of(brine)) - worth(gone))
            more = tuple(pair(worth(full) * Fraction(k, 12)) for k in range(1, 13))
            for strength in strengths(brine) + strengths(left) + more:
                lessened = max(Fraction(0), worth(need(full, brine, strength)) - worth(gone))
                self.assertEqual(worth(need(full, left, strength)), lessened)

    def test_twice_as_by_both_together(self):
        rng = rng_of(43)
        for _ in range(200):
            full = some_full(rng)
            brine = some_brine(rng, full)
            one, other = some_water(rng, full, brine), some_water(rng, full, brine)
            between, first = dried(full, brine, one)
            left, second = dried(full, between, other)
            both = dried(full, brine, pair(worth(one) + worth(other)))
            self.assertEqual((left, pair(worth(first) + worth(second))), both)

    def test_long_ones(self):
        rng = rng_of(44)
        brine = (FALLEN,) + tuple(layer(k, 1) for k in range(3, 401)) + (RAIN,)
        for water in (ONE, (7, 1), (8, 1), (1000, 1), (70000, 1), (79000, 1), (79500, 1), (10 ** 6, 1)):
            self.assertEqual(dried(FULL, brine, water), dried_otherwise(FULL, brine, water))
        layers = [(small(rng, 1, 10 ** 6), small(rng, 0, 3000)) for _ in range(400)]
        full = (10 ** 6, 1)
        brine = laid(full, tuple(one for one in layers if is_brine(full, (one,))))
        for water in ((10 ** 6, 7), (10 ** 6, 1)):
            self.assertEqual(dried(full, brine, water), dried_otherwise(full, brine, water))


class Rained(unittest.TestCase):
    def test_it_lies_on_top(self):
        self.assertEqual(rained((), (3, 2)), (layer("3/2", 0),))
        self.assertEqual(rained((FALLEN,), (3, 2)), (FALLEN, layer("3/2", 0)))
        self.assertEqual(rained(BRINE[:-1], (3, 2)), BRINE[:-1] + (layer("3/2", 0),))
        self.assertEqual(rained(BRINE, (3, 2)), BRINE[:-1] + (layer("17/2", 0),))
        self.assertEqual(rained((RAIN,), (3, 2)), (layer("17/2", 0),))

    def test_by_nought(self):
        for brine in ((), (FALLEN,), (RAIN,), BRINE, BRINE[:-1]):
            self.assertEqual(rained(brine, NOUGHT), brine)

    def test_water_below_nought(self):
        for water in BELOW:
            for brine in ((), BRINE):
                with self.assertRaises(NoWater):
                    rained(brine, water)

    def test_each_need_grows_by_it(self):
        rng = rng_of(45)
        for _ in range(150):
            full = some_full(rng)
            brine = some_brine(rng, full)
            water = pair(Fraction(rng.randint(0, 50), rng.randint(1, 9)))
            told = rained(brine, water)
            self.assertEqual(told, rained_otherwise(brine, water))
            self.assertIs(is_brine(full, told), True)
            self.assertEqual(salt_of(told), salt_of(brine))
            check_brine(self, told)
            for strength in (full,) + strengths(brine) + (pair(worth(full) / 7),):
                self.assertEqual(worth(need(full, told, strength)), worth(need(full, brine, strength)) + worth(water))


def spoilt(rng, full, told):
    """Things that look much like what is told and are not."""
    row, gone = told
    yield (row, pair(worth(gone) + Fraction(1, 7)))
    yield (row + (layer(1, 0),), gone)
    yield ((layer(0, 1),) + row, gone)
    yield (row[1:], gone)
    yield (row[:-1], gone)
    yield (row[::-1], gone)
    yield (list(row), gone)
    yield (row, list(gone))
    yield [row, gone]
    yield (row, gone, gone)
    yield (gone, row)
    yield (row, None)
    yield (tuple(list(one) for one in row), gone)
    for at, one in enumerate(row):
        for other in row[at + 1:]:
            both = layer(worth(one[0]) + worth(other[0]), worth(one[1]) + worth(other[1]))
            rest = tuple(each for each in row if each not in (one, other))
            if is_brine(full, (both,)):
                yield (laid(full, rest + (both,)), gone)
    for at, (held, salt) in enumerate(row):
        moved = Fraction(1, rng.randint(2, 9))
        parts = (layer(worth(held) * moved, worth(salt)), layer(worth(held) * (1 - moved), 0))
        if held != NOUGHT and is_brine(full, parts[:1]):
            yield (laid(full, row[:at] + row[at + 1:] + parts), gone)
        if held != NOUGHT and salt != NOUGHT:
            yield (laid(full, row[:at] + row[at + 1:] + ((held, NOUGHT), (NOUGHT, salt))), gone)
            parts = (layer(worth(held) / 2, worth(salt) * Fraction(2, 5)),
                     layer(worth(held) / 2, worth(salt) * Fraction(3, 5)))
            if is_brine(full, parts[:1]) and is_brine(full, parts[1:]):
                yield (laid(full, row[:at] + row[at + 1:] + parts), gone)


class Right(unittest.TestCase):
    def test_what_is_told(self):
        for water in (NOUGHT, ONE, (7, 1), (15, 2), (8, 1), (9, 1), (10, 1), (13, 1), (19, 1), (20, 1)):
            for brine in ((), (FALLEN,), (RAIN,), (layer(4, 1),), BRINE):
                self.assertIs(dried_right(FULL, brine, water, dried(FULL, brine, water)), True)

    def test_right_of_another_water(self):
        told = dried(FULL, BRINE, (15, 2))
        for water in (NOUGHT, ONE, (7, 1), (15001, 2000), (8, 1), (19, 1)):
            self.assertIs(dried_right(FULL, BRINE, water, told), False)

    def test_where_no_water_is_left_anything_above_is_right(self):
        told = ((layer(0, 5),), (19, 1))
        self.assertIs(dried_right(FULL, BRINE, (500, 1), told), True)
        self.assertIs(dried_right(FULL, BRINE, (500, 1), (told[0], (500, 1))), False)

    def test_another_salt_water_or_need(self):
        gone = (15, 2)
        for row in (
            BRINE[:3] + (layer("9/2", "9/10"),), BRINE[1:3] + (layer("9/2", 1),), BRINE[:3] + (layer("9/2", "1/2"),),
            (FALLEN, layer(3, 1), layer("17/2", 2)), (layer(0, 5), layer("23/2", 0)),
            (FALLEN, layer(6, 2), layer("11/2", 1)), (layer(0, 3), layer(3, 1), layer("17/2", 1)),
        ):
            self.assertIs(is_brine(FULL, row), True)
            self.assertIs(dried_right(FULL, BRINE, gone, (row, gone)), False, row)

    def test_the_weakest_layer_must_be_the_one_that_drying_makes(self):
        # A row that has the right needs for the brine's own strengths, and parts the dried layer.
        brine = (layer(4, 1), layer(20, 1))
        gone = (10, 1)
        self.assertEqual(dried(FULL, brine, gone), ((layer(4, 1), layer(10, 1)), gone))
        other = (layer(4, 1), layer(5, "3/5"), layer(5, "2/5"))
        self.assertIs(is_brine(FULL, other), True)
        for strength in strengths(brine) + strengths(other) + (FULL,):
            lessened = max(Fraction(0), worth(need(FULL, brine, strength)) - 10)
            self.assertEqual(worth(need(FULL, other, strength)), lessened)
        self.assertIs(dried_right(FULL, brine, gone, (other, gone)), False)
        self.assertIs(dried_right(FULL, brine, gone, dried(FULL, brine, gone)), True)

    def test_anything_else(self):
        row, gone = dried(FULL, BRINE, (15, 2))
        for thing in STRANGE + ((), (row,), row, gone, ((), ()), ("", ""), (row, row), (gone, gone)):
            self.assertIs(dried_right(FULL, BRINE, (15, 2), thing), False, thing)
        for thing in STRANGE:
            self.assertIs(dried_right(FULL, BRINE, (15, 2), (row, thing)), False, thing)
            self.assertIs(dried_right(FULL, BRINE, (15, 2), (thing, gone)), False, thing)
            self.assertIs(dried_right(FULL, BRINE, (15, 2), (row + (thing,), gone)), False, thing)

    def test_true_in_the_place_of_one(self):
        self.assertEqual(dried(FULL, (layer(4, 1),), ONE), ((layer(3, 1),), ONE))
        for thing in (((((3, 1), (True, 1)),), ONE), ((((3, True), ONE),), ONE), ((layer(3, 1),), (True, 1)),
                      ((layer(3, 1),), (1, True)), ((layer(3, 1),), True)):
            self.assertIs(dried_right(FULL, (layer(4, 1),), ONE, thing), False)
        self.assertIs(dried_right(FULL, (), ONE, ((), (False, 1))), False)
        self.assertIs(dried_right(FULL, (), ONE, ((), (0, 2))), False)

    def test_too_strong_for_the_full(self):
        self.assertIs(dried_right(FULL, (layer(4, 1),), (2, 1), ((layer(2, 1),), (2, 1))), False)
        self.assertIs(dried_right(HALF, (layer(4, 1),), (2, 1), ((layer(2, 1),), (2, 1))), True)

    def test_water_below_nought(self):
        for water in BELOW:
            for thing in (None, (BRINE, NOUGHT), (BRINE, water)):
                with self.assertRaises(NoWater):
                    dried_right(FULL, BRINE, water, thing)

    def test_many(self):
        rng = rng_of(46)
        wrong = 0
        for _ in range(250):
            full = some_full(rng)
            brine = some_brine(rng, full, 5)
            water = some_water(rng, full, brine)
            told = dried_otherwise(full, brine, water)
            self.assertIs(dried_right(full, brine, water, told), True)
            for thing in spoilt(rng, full, told):
                self.assertIs(dried_right(full, brine, water, thing), thing == told, (brine, water, thing))
                wrong += thing != told
        self.assertGreater(wrong, 3000)


if __name__ == "__main__":
    unittest.main()
