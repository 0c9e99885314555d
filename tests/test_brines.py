"""Layers and brines (2.1, 2.2)."""

import unittest
from itertools import permutations

from brineways.brines import is_brine, is_layer, joined, laid, share_of
from brineways.errors import NoBrine, NoFraction
from support import (
    HALF, NOUGHT, ONE, STRANGE, check_brine, laid_otherwise, layer, pair, rng_of, some_brine, some_full,
    some_layer, worth,
)

FULL = (1, 3)
FALLEN = layer(0, 2)
FULLEST = layer(3, 1)
MIDDLE = layer(4, 1)
WEAK = layer(5, 1)
RAIN = layer(7, 0)

NO_LAYERS = (
    (NOUGHT, NOUGHT),                                   # of nothing
    layer(3, "1001/1000"), layer(1, 1), layer(1, "334/1000"),   # too strong
    layer(-1, 1), layer(1, -1), layer(-3, -1), layer(0, -1), layer(-1, 0),
    ((6, 2), ONE), ((3, 1), (2, 2)), ((3, 1), (0, 2)), ((0, 2), ONE),   # not in lowest terms
    ((3, 0), ONE), ((3, 1), (1, 0)), ((-3, -1), ONE),
    [ONE, NOUGHT], ([1, 1], (0, 1)), ((1, 1), [0, 1]), [[1, 1], [0, 1]],
    ((True, 1), NOUGHT), (ONE, (False, 1)), ((1, True), NOUGHT), (ONE, (0, True)), (True, False),
    (ONE,), (ONE, NOUGHT, NOUGHT), (3, 1), ONE, (ONE, 0), (1, NOUGHT), (ONE, None), (None, ONE), ("3", "1"),
    ((ONE, NOUGHT),), (((3, 1), (1, 1)), ((4, 1), (1, 1))), (), "", {ONE: NOUGHT},
)


class IsLayer(unittest.TestCase):
    def test_good_ones(self):
        for thing in (FALLEN, FULLEST, MIDDLE, WEAK, RAIN, layer("1/1000", 0), layer(0, "1/1000"),
                      layer("3/7", "1/7"), layer(10 ** 40, 1), layer(0, 10 ** 40)):
            self.assertIs(is_layer(FULL, thing), True, thing)

    def test_the_full_strength_is_the_edge(self):
        self.assertIs(is_layer((1, 2), layer(2, 1)), True)
        self.assertIs(is_layer((499, 1000), layer(2, 1)), False)
        self.assertIs(is_layer((5, 1), layer(2, 10)), True)
        self.assertIs(is_layer((5, 1), layer(2, "10001/1000")), False)

    def test_anything_else(self):
        for thing in NO_LAYERS + STRANGE:
            self.assertIs(is_layer(FULL, thing), False, thing)

    def test_what_is_strange_within(self):
        for thing in STRANGE:
            self.assertIs(is_layer(FULL, (ONE, thing)), False, thing)
            self.assertIs(is_layer(FULL, (thing, NOUGHT)), False, thing)


class IsBrine(unittest.TestCase):
    def test_good_ones(self):
        row = (FALLEN, FULLEST, MIDDLE, WEAK, RAIN)
        for start in range(6):
            for end in range(start, 6):
                self.assertIs(is_brine(FULL, row[start:end]), True)
        self.assertIs(is_brine(FULL, ()), True)
        self.assertIs(is_brine(FULL, (FALLEN, RAIN)), True)

    def test_another_order(self):
        row = (FALLEN, FULLEST, MIDDLE, WEAK, RAIN)
        for order in permutations(row):
            self.assertIs(is_brine(FULL, order), order == row)

    def test_two_of_one_strength(self):
        for one, other in ((FULLEST, layer(6, 2)), (MIDDLE, layer(2, "1/2")), (WEAK, WEAK),
                           (FALLEN, layer(0, 1)), (FALLEN, FALLEN), (RAIN, layer(1, 0)), (RAIN, RAIN)):
            self.assertIs(is_brine(FULL, (one, other)), False)
            self.assertIs(is_brine(FULL, (other, one)), False)

    def test_fallen_salt_and_rain_water_in_the_wrong_place(self):
        for row in ((FULLEST, FALLEN), (RAIN, FALLEN), (FULLEST, FALLEN, RAIN), (RAIN, MIDDLE),
                    (FALLEN, RAIN, WEAK), (FALLEN, MIDDLE, FALLEN), (RAIN, MIDDLE, RAIN)):
            self.assertIs(is_brine(FULL, row), False, row)

    def test_a_part_that_is_no_layer(self):
        for thing in NO_LAYERS + STRANGE:
            for row in ((thing,), (FALLEN, thing), (thing, RAIN), (FALLEN, thing, RAIN)):
                self.assertIs(is_brine(FULL, row), False, row)

    def test_too_strong_for_another_full(self):
        self.assertIs(is_brine((1, 4), (FULLEST, WEAK)), False)
        self.assertIs(is_brine((1, 4), (MIDDLE, WEAK)), True)

    def test_lists_in_the_place_of_rows(self):
        for thing in ([], [FALLEN, RAIN], [list(FALLEN)], (list(FALLEN),), (FALLEN, [ONE, NOUGHT]),
                      {FALLEN: RAIN}, {FALLEN}):
            self.assertIs(is_brine(FULL, thing), False, thing)

    def test_anything_else(self):
        for thing in STRANGE + FALLEN + RAIN + (FALLEN, RAIN):
            self.assertIs(is_brine(FULL, thing), False, thing)

    def test_many(self):
        rng = rng_of(11)
        for _ in range(300):
            full = some_full(rng)
            layers = tuple(some_layer(rng, full) for _ in range(rng.randint(0, 5)))
            self.assertIs(is_brine(full, layers), layers == laid_otherwise(layers))
            self.assertIs(is_brine(full, laid_otherwise(layers)), True)

    def test_a_long_row(self):
        row = tuple(layer(k, 1) for k in range(3, 403))
        self.assertIs(is_brine(FULL, row), True)
        self.assertIs(is_brine(FULL, row[::-1]), False)
        self.assertIs(is_brine(FULL, row[:399] + row[398:399]), False)


class Laid(unittest.TestCase):
    def test_none(self):
        self.assertEqual(laid(FULL, ()), ())

    def test_in_whatever_order(self):
        row = (FALLEN, FULLEST, MIDDLE, WEAK, RAIN)
        for order in permutations(row):
            self.assertEqual(laid(FULL, order), row)

    def test_order_is_by_worth_and_not_as_pairs(self):
        row = (layer(5, 3), layer(2, 1), layer(5, 2), layer(3, 1))
        for order in permutations(row):
            self.assertEqual(laid(ONE, order), row)

    def test_one_strength_is_one_layer(self):
        self.assertEqual(laid(FULL, (WEAK, layer("5/2", "1/2"), WEAK)), (layer("25/2", "5/2"),))
        self.assertEqual(laid(FULL, (RAIN, WEAK, layer("1/3", 0))), (WEAK, layer("22/3", 0)))
        self.assertEqual(laid(FULL, (FALLEN, FULLEST, layer(0, "1/2"), layer(6, 2))),
                         (layer(0, "5/2"), layer(9, 3)))

    def test_fallen_salt_never_dissolves(self):
        self.assertEqual(laid(FULL, (RAIN, FALLEN)), (FALLEN, RAIN))

    def test_no_layers(self):
        for thing in NO_LAYERS + STRANGE:
            for row in ((thing,), (WEAK, thing), (thing, RAIN), (WEAK, thing, FALLEN)):
                with self.assertRaises(NoBrine):
                    laid(FULL, row)

    def test_too_strong_for_another_full(self):
        self.assertEqual(laid((1, 3), (WEAK, FULLEST)), (FULLEST, WEAK))
        with self.assertRaises(NoBrine):
            laid((1, 4), (WEAK, FULLEST))

    def test_many(self):
        rng = rng_of(12)
        for _ in range(300):
            full = some_full(rng)
            layers = tuple(some_layer(rng, full) for _ in range(rng.randint(0, 9)))
            told = laid(full, layers)
            self.assertEqual(told, laid_otherwise(layers))
            self.assertIs(is_brine(full, told), True)
            self.assertEqual(laid(full, told), told)
            check_brine(self, told)

    def test_long_rows(self):
        rng = rng_of(13)
        for marks in (6, 1000):
            layers = tuple(some_layer(rng, FULL, marks) for _ in range(400))
            told = laid(FULL, layers)
            self.assertEqual(told, laid_otherwise(layers))
            self.assertEqual(laid(FULL, layers[::-1]), told)

    def test_a_long_row_of_small_fractions(self):
        rng = rng_of(14)
        full = (10 ** 6, 1)
        layers = tuple(
            layer(worth((rng.randint(1, 10 ** 6), 1000 - k)), worth((rng.randint(0, 10 ** 6), 601 + k)))
            for k in range(399)
        ) + (layer(0, "999999/1000"),)
        layers = tuple(one for one in layers if is_layer(full, one))
        self.assertGreater(len(layers), 390)
        self.assertEqual(laid(full, layers), laid_otherwise(layers))


class Joined(unittest.TestCase):
    def test_by_hand(self):
        self.assertEqual(joined((FALLEN, MIDDLE, RAIN), (FULLEST, MIDDLE)),
                         (FALLEN, FULLEST, layer(8, 2), RAIN))
        self.assertEqual(joined((FALLEN, RAIN), (FALLEN, RAIN)), (layer(0, 4), layer(14, 0)))
        self.assertEqual(joined((RAIN,), (FALLEN,)), (FALLEN, RAIN))

    def test_with_nothing(self):
        self.assertEqual(joined((), ()), ())
        rng = rng_of(15)
        for _ in range(50):
            brine = some_brine(rng, FULL)
            self.assertEqual(joined(brine, ()), brine)
            self.assertEqual(joined((), brine), brine)

    def test_in_either_order(self):
        rng = rng_of(16)
        for _ in range(200):
            full = some_full(rng)
            one, other, third = (some_brine(rng, full) for _ in range(3))
            told = joined(one, other)
            self.assertEqual(told, laid_otherwise(one + other))
            self.assertEqual(joined(other, one), told)
            self.assertEqual(laid(full, other + one), told)
            self.assertEqual(joined(told, third), joined(one, joined(other, third)))
            check_brine(self, told)

    def test_long_ones(self):
        one = tuple(layer(k, 1) for k in range(3, 403))
        other = tuple(layer(k, 2) for k in range(7, 407))
        self.assertEqual(joined(one, other), laid_otherwise(one + other))


class Shared(unittest.TestCase):
    def test_by_hand(self):
        self.assertEqual(share_of((FALLEN, MIDDLE, RAIN), HALF),
                         (layer(0, 1), layer(2, "1/2"), layer("7/2", 0)))

    def test_by_nought_and_by_one(self):
        for brine in ((), (FALLEN,), (RAIN,), (FALLEN, FULLEST, MIDDLE, WEAK, RAIN)):
            self.assertEqual(share_of(brine, NOUGHT), ())
            self.assertEqual(share_of(brine, ONE), brine)

    def test_between(self):
        rng = rng_of(17)
        for _ in range(150):
            full = some_full(rng)
            brine = some_brine(rng, full)
            bottom = rng.randint(2, 1000)
            part = pair(worth((rng.randint(1, bottom - 1), bottom)))
            told = share_of(brine, part)
            self.assertEqual(told, tuple(
                (pair(worth(water) * worth(part)), pair(worth(salt) * worth(part))) for water, salt in brine))
            self.assertIs(is_brine(full, told), True)
            rest = pair(1 - worth(part))
            self.assertEqual(joined(told, share_of(brine, rest)), brine)

    def test_below_nought_and_above_one(self):
        for part in ((-1, 1), (-1, 1000), (1001, 1000), (2, 1), (10 ** 6, 1), (-10 ** 40, 3)):
            for brine in ((), (FALLEN, WEAK, RAIN)):
                with self.assertRaises(NoFraction):
                    share_of(brine, part)


if __name__ == "__main__":
    unittest.main()
