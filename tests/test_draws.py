"""Drawn, skimmed, stirred (4.1 to 4.3)."""

import unittest
from fractions import Fraction

from brineways.brines import fallen_of, is_brine, joined, salt_of, share_of, strengths, water_of
from brineways.draws import bound_by, drawn, least_bound, may_take, skimmed, stirred
from brineways.errors import NoStrength, NoWater
from support import (
    HALF, NOUGHT, ONE, check_brine, check_fraction, layer, pair, rng_of, some_brine, some_full, worth,
)

FULL = (1, 3)
FALLEN = layer(0, 2)
RAIN = layer(7, 0)
BRINE = (FALLEN, layer(3, 1), layer(4, 1), RAIN)
BELOW = ((-1, 1), (-1, 1000), (-10 ** 40, 7))


def some_amount(rng, brine):
    """An amount from 0 to all water: ends, edges between layers, and parts."""
    whole = worth(water_of(brine))
    sums = [Fraction(0), whole, whole * Fraction(rng.randint(0, 30), 30)]
    for row in (brine, brine[::-1]):
        for at in range(len(row)):
            sums.append(sum((worth(held) for held, _ in row[:at]), Fraction(0)))
    return pair(rng.choice(sums))


def taken_otherwise(brine, water, strongest):
    """The salt taken, the strongest or the weakest layers first."""
    left, salt_taken = worth(water), Fraction(0)
    wet = [(worth(held), worth(salt)) for held, salt in brine if held != NOUGHT]
    for held, salt in wet if strongest else wet[::-1]:
        part = min(left, held)
        left, salt_taken = left - part, salt_taken + salt * part / held
    return salt_taken


class Drawn(unittest.TestCase):
    def test_by_hand(self):
        self.assertEqual(drawn(BRINE, NOUGHT), ((), BRINE))
        self.assertEqual(drawn(BRINE, ONE), ((layer(1, "1/3"),), (FALLEN, layer(2, "2/3"), layer(4, 1), RAIN)))
        self.assertEqual(drawn(BRINE, (3, 1)), ((layer(3, 1),), (FALLEN, layer(4, 1), RAIN)))
        self.assertEqual(drawn(BRINE, (5, 1)), ((layer(3, 1), layer(2, "1/2")), (FALLEN, layer(2, "1/2"), RAIN)))
        self.assertEqual(drawn(BRINE, (7, 1)), ((layer(3, 1), layer(4, 1)), (FALLEN, RAIN)))
        self.assertEqual(drawn(BRINE, (13, 1)), ((layer(3, 1), layer(4, 1), layer(6, 0)), (FALLEN, layer(1, 0))))
        self.assertEqual(drawn(BRINE, (14, 1)), (BRINE[1:], (FALLEN,)))

    def test_where_there_is_no_water(self):
        for brine in ((), (FALLEN,)):
            self.assertEqual(drawn(brine, NOUGHT), ((), brine))
            self.assertEqual(skimmed(brine, NOUGHT), ((), brine))


class Skimmed(unittest.TestCase):
    def test_by_hand(self):
        self.assertEqual(skimmed(BRINE, NOUGHT), ((), BRINE))
        self.assertEqual(skimmed(BRINE, ONE), ((layer(1, 0),), BRINE[:3] + (layer(6, 0),)))
        self.assertEqual(skimmed(BRINE, (7, 1)), ((RAIN,), BRINE[:3]))
        self.assertEqual(skimmed(BRINE, (9, 1)), ((layer(2, "1/2"), RAIN), (FALLEN, layer(3, 1), layer(2, "1/2"))))
        self.assertEqual(skimmed(BRINE, (11, 1)), ((layer(4, 1), RAIN), (FALLEN, layer(3, 1))))
        self.assertEqual(skimmed(BRINE, (14, 1)), (BRINE[1:], (FALLEN,)))


class Both(unittest.TestCase):
    def test_no_water(self):
        for function in (drawn, skimmed):
            for brine in ((), (FALLEN,), BRINE):
                for water in BELOW + ((14001, 1000), (15, 1), (10 ** 6, 1)):
                    with self.assertRaises(NoWater):
                        function(brine, water)
        for function in (drawn, skimmed):
            with self.assertRaises(NoWater):
                function((FALLEN,), (1, 1000))

    def test_many(self):
        rng = rng_of(51)
        for _ in range(300):
            full = some_full(rng)
            brine = some_brine(rng, full)
            water = some_amount(rng, brine)
            for function, strongest in ((drawn, True), (skimmed, False)):
                told = function(brine, water)
                self.assertIs(type(told), tuple)
                taken, left = told
                check_brine(self, taken)
                check_brine(self, left)
                self.assertIs(is_brine(full, taken), True)
                self.assertIs(is_brine(full, left), True)
                self.assertEqual(joined(taken, left), brine)
                self.assertEqual(water_of(taken), water)
                self.assertEqual(worth(salt_of(taken)), taken_otherwise(brine, water, strongest))
                self.assertEqual(fallen_of(taken), NOUGHT)
                self.assertEqual(fallen_of(left), fallen_of(brine))
                self.assertLessEqual(set(strengths(taken)), set(strengths(brine)))

    def test_what_drawing_leaves_is_what_skimming_the_rest_takes(self):
        rng = rng_of(52)
        for _ in range(200):
            brine = some_brine(rng, some_full(rng))
            water = some_amount(rng, brine)
            rest = pair(worth(water_of(brine)) - worth(water))
            left = drawn(brine, water)[1]
            self.assertEqual(tuple(one for one in left if one[0] != NOUGHT), skimmed(brine, rest)[0])

    def test_a_long_one(self):
        brine = (FALLEN,) + tuple(layer(k, 1) for k in range(3, 401)) + (RAIN,)
        for water in (NOUGHT, (12, 1), (25, 2), (40000, 1), water_of(brine)):
            for function, strongest in ((drawn, True), (skimmed, False)):
                taken, left = function(brine, water)
                self.assertEqual(joined(taken, left), brine)
                self.assertEqual(worth(salt_of(taken)), taken_otherwise(brine, water, strongest))


class MayTake(unittest.TestCase):
    def test_by_hand(self):
        # Of 5: from no salt (rain water alone) to 3/2.
        for salt, right in ((NOUGHT, True), ((-1, 1000), False), (ONE, True), ((3, 2), True), ((1501, 1000), False)):
            self.assertIs(may_take(BRINE, (5, 1), salt), right)
        # Of 9: from 1/2 to 2.
        for salt, right in ((HALF, True), ((499, 1000), False), ((2, 1), True), ((2001, 1000), False)):
            self.assertIs(may_take(BRINE, (9, 1), salt), right)

    def test_of_nothing_and_of_all(self):
        for brine in ((), (FALLEN,), BRINE):
            self.assertIs(may_take(brine, NOUGHT, NOUGHT), True)
            self.assertIs(may_take(brine, NOUGHT, (1, 1000)), False)
            self.assertIs(may_take(brine, NOUGHT, (-1, 1000)), False)
        for salt in (NOUGHT, ONE, (1999, 1000), (2, 1), (2001, 1000), (4, 1)):
            self.assertIs(may_take(BRINE, (14, 1), salt), salt == (2, 1))

    def test_water_that_is_not_there(self):
        for water in BELOW + ((14001, 1000), (15, 1)):
            for salt in (NOUGHT, ONE, (2, 1), (-1, 1)):
                self.assertIs(may_take(BRINE, water, salt), False)
        self.assertIs(may_take((), ONE, NOUGHT), False)

    def test_many(self):
        rng = rng_of(53)
        for _ in range(200):
            brine = some_brine(rng, some_full(rng))
            water = some_amount(rng, brine)
            low = taken_otherwise(brine, water, False)
            high = taken_otherwise(brine, water, True)
            near = Fraction(1, 10 ** 9)
            for salt in (low, high, (low + high) / 2, low - near, high + near, low + near, high - near):
                self.assertIs(may_take(brine, water, pair(salt)), low <= salt <= high)


class Bounds(unittest.TestCase):
    def test_by_hand(self):
        self.assertEqual(bound_by(BRINE, (5, 1), (1, 4)), (3, 2))
        self.assertEqual(bound_by(BRINE, (5, 1), NOUGHT), (2, 1))
        self.assertEqual(bound_by(BRINE, (5, 1), (1, 3)), (5, 3))
        self.assertEqual(bound_by(BRINE, (5, 1), (10, 1)), (50, 1))
        self.assertEqual(bound_by((), NOUGHT, (10, 1)), NOUGHT)
        self.assertEqual(bound_by((FALLEN,), NOUGHT, NOUGHT), NOUGHT)

    def test_least_by_hand(self):
        for water, told in ((NOUGHT, (NOUGHT, (1, 3))), (ONE, ((1, 3), (1, 3))), ((3, 1), (ONE, (1, 3))),
                            ((5, 1), ((3, 2), (1, 4))), ((7, 1), ((2, 1), (1, 4))), ((8, 1), ((2, 1), NOUGHT)),
                            ((14, 1), ((2, 1), NOUGHT))):
            self.assertEqual(least_bound(FULL, BRINE, water), told)
        self.assertEqual(least_bound(HALF, BRINE, NOUGHT), (NOUGHT, HALF))
        self.assertEqual(least_bound(FULL, (), NOUGHT), (NOUGHT, FULL))
        self.assertEqual(least_bound(FULL, (FALLEN,), NOUGHT), (NOUGHT, FULL))

    def test_no_water_ahead_of_no_strength(self):
        for water in BELOW + ((14001, 1000), (15, 1)):
            for strength in (NOUGHT, (1, 4), (-1, 1)):
                with self.assertRaises(NoWater):
                    bound_by(BRINE, water, strength)
            with self.assertRaises(NoWater):
                least_bound(FULL, BRINE, water)
        for strength in BELOW:
            for brine, water in ((BRINE, (5, 1)), (BRINE, NOUGHT), (BRINE, (14, 1)), ((), NOUGHT)):
                with self.assertRaises(NoStrength):
                    bound_by(brine, water, strength)

    def test_no_taking_has_more_salt(self):
        rng = rng_of(54)
        for _ in range(150):
            full = some_full(rng)
            brine = some_brine(rng, full)
            taken = self.any_taking(rng, brine)
            water = pair(sum((held for held, _ in taken), Fraction(0)))
            salt = sum((one for _, one in taken), Fraction(0))
            asked = strengths(brine) + (NOUGHT, full, pair(worth(full) * 3), pair(worth(full) / 5))
            told, by = least_bound(full, brine, water)
            self.assertIs(may_take(brine, water, pair(salt)), True)
            for strength in asked:
                bound = bound_by(brine, water, strength)
                check_fraction(self, bound)
                self.assertEqual(worth(bound), self.bound_otherwise(brine, water, strength))
                self.assertGreaterEqual(worth(bound), salt)
                self.assertGreaterEqual(worth(bound), worth(told))
            self.assertEqual(bound_by(brine, water, by), told)
            self.assertEqual(told, salt_of(drawn(brine, water)[0]))

    def any_taking(self, rng, brine):
        """Of each dissolved layer a part, salt and water alike."""
        parts = [Fraction(rng.randint(0, 4), 4) for _ in brine]
        return [(worth(held) * by, worth(salt) * by) for (held, salt), by in zip(brine, parts) if held != NOUGHT]

    def bound_otherwise(self, brine, water, strength):
        parts = [worth(salt) - worth(strength) * worth(held) for held, salt in brine if held != NOUGHT]
        return worth(strength) * worth(water) + sum((one for one in parts if one > 0), Fraction(0))

    def test_the_strength_is_of_the_last_layer_drawn_of(self):
        rng = rng_of(55)
        for _ in range(150):
            full = some_full(rng)
            brine = some_brine(rng, full)
            water = some_amount(rng, brine)
            taken = drawn(brine, water)[0]
            told = least_bound(full, brine, water)
            right = pair(worth(taken[-1][1]) / worth(taken[-1][0])) if taken else full
            self.assertEqual(told, (salt_of(taken), right))


class Stirred(unittest.TestCase):
    def test_by_hand(self):
        self.assertEqual(stirred(BRINE), (FALLEN, layer(14, 2)))
        self.assertEqual(stirred(BRINE[1:]), (layer(14, 2),))
        self.assertEqual(stirred((layer(3, 1), layer("5/2", "1/2"))), (layer("11/2", "3/2"),))

    def test_of_nothing_dissolved_and_of_one_layer(self):
        for brine in ((), (FALLEN,), (RAIN,), (FALLEN, RAIN), (layer(3, 1),), (FALLEN, layer(4, 1))):
            self.assertEqual(stirred(brine), brine)

    def test_many(self):
        rng = rng_of(56)
        for _ in range(150):
            full = some_full(rng)
            brine = some_brine(rng, full)
            told = stirred(brine)
            check_brine(self, told)
            self.assertIs(is_brine(full, told), True)
            self.assertEqual((water_of(told), salt_of(told), fallen_of(told)),
                             (water_of(brine), salt_of(brine), fallen_of(brine)))
            self.assertEqual(len([one for one in told if one[0] != NOUGHT]), int(water_of(brine) != NOUGHT))
            self.assertEqual(stirred(told), told)
            self.assertEqual(stirred(share_of(brine, HALF)), share_of(told, HALF))


if __name__ == "__main__":
    unittest.main()
