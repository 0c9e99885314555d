"""Needs, and brines known by them (2.3, 2.4)."""

import unittest
from fractions import Fraction

from brineways.brines import alike_by_needs, joined, laid, need, salt_of, share_of, strengths, water_of
from brineways.errors import NoStrength
from support import (
    HALF, NOUGHT, ONE, check_fraction, layer, need_otherwise, pair, rng_of, some_brine, some_full, worth,
)

FULL = (1, 3)
FALLEN = layer(0, 2)
RAIN = layer(7, 0)
BRINE = (FALLEN, layer(3, 1), layer(4, 1), layer(5, 1), RAIN)


def asked_of(rng, full, brine):
    """Strengths to ask for: full, each of the brine's own, and some more."""
    more = [pair(worth(full) * Fraction(rng.randint(1, 50), 50)) for _ in range(3)]
    return (full,) + strengths(brine) + tuple(more)


class Need(unittest.TestCase):
    def test_by_hand(self):
        self.assertEqual(need(FULL, BRINE, (1, 3)), (10, 1))
        self.assertEqual(need(FULL, BRINE, (1, 4)), (8, 1))
        self.assertEqual(need(FULL, BRINE, (1, 5)), (7, 1))
        self.assertEqual(need(FULL, BRINE, (1, 1000)), (7, 1))
        self.assertEqual(need(FULL, BRINE, (2, 9)), (15, 2))

    def test_stronger_layers_make_up_for_nothing(self):
        self.assertEqual(need(ONE, (layer(10, 10), layer(10, 1)), HALF), (8, 1))

    def test_at_a_layers_own_strength(self):
        self.assertEqual(need(FULL, (layer(4, 1),), (1, 4)), NOUGHT)
        self.assertEqual(need(FULL, (layer(4, 1),), (251, 1000)), pair(4 - Fraction(1000, 251)))
        self.assertEqual(need(FULL, (layer(4, 1),), (249, 1000)), NOUGHT)

    def test_of_nothing_and_of_fallen_salt(self):
        for brine in ((), (FALLEN,)):
            for strength in ((1, 3), (1, 4), (1, 1000)):
                self.assertEqual(need(FULL, brine, strength), NOUGHT)

    def test_of_rain_water(self):
        for strength in ((1, 3), (1, 4), (1, 1000)):
            self.assertEqual(need(FULL, (RAIN,), strength), (7, 1))

    def test_no_strengths(self):
        for brine in ((), (FALLEN,), BRINE):
            for strength in (NOUGHT, (-1, 1000), (-1, 1), (-10 ** 30, 7), (334, 999), (1, 2), ONE,
                             (10 ** 6, 1), (10 ** 30, 7)):
                with self.assertRaises(NoStrength):
                    need(FULL, brine, strength)

    def test_full_is_the_edge(self):
        self.assertEqual(need((1, 3), (RAIN,), (1, 3)), (7, 1))
        with self.assertRaises(NoStrength):
            need((333, 1000), (RAIN,), (1, 3))
        self.assertEqual(need((5, 1), (layer(2, 1),), (5, 1)), (9, 5))

    def test_many(self):
        rng = rng_of(31)
        for _ in range(150):
            full = some_full(rng)
            brine = some_brine(rng, full)
            for strength in asked_of(rng, full, brine):
                told = need(full, brine, strength)
                self.assertEqual(told, need_otherwise(brine, strength))
                check_fraction(self, told)

    def test_joined_brines_needs_add_up(self):
        rng = rng_of(32)
        for _ in range(100):
            full = some_full(rng)
            one, other = some_brine(rng, full), some_brine(rng, full)
            both = joined(one, other)
            for strength in asked_of(rng, full, both):
                sum_of_both = worth(need(full, one, strength)) + worth(need(full, other, strength))
                self.assertEqual(need(full, both, strength), pair(sum_of_both))

    def test_a_long_one(self):
        brine = (FALLEN,) + tuple(layer(k, 1) for k in range(3, 401)) + (RAIN,)
        for strength in ((1, 3), (1, 200), (2, 401), (1, 400), (1, 401)):
            self.assertEqual(need(FULL, brine, strength), need_otherwise(brine, strength))


class Alike(unittest.TestCase):
    def unlike(self, full, one, other):
        self.assertIs(alike_by_needs(full, one, other), False)
        self.assertIs(alike_by_needs(full, other, one), False)

    def test_the_same(self):
        for brine in ((), (FALLEN,), (RAIN,), (FALLEN, RAIN), BRINE):
            self.assertIs(alike_by_needs(FULL, brine, brine), True)
        self.assertIs(alike_by_needs(FULL, laid(FULL, BRINE[::-1]), BRINE), True)

    def test_other_water_or_salt(self):
        self.unlike(FULL, (), (RAIN,))
        self.unlike(FULL, (), (FALLEN,))
        self.unlike(FULL, (FALLEN,), (layer(0, 3),))
        self.unlike(FULL, (RAIN,), (layer(8, 0),))
        self.unlike(FULL, BRINE, BRINE[1:])
        self.unlike(FULL, BRINE, BRINE[:-1])
        self.unlike(FULL, (layer(4, 1),), (layer(5, 1),))

    def test_other_water_alone(self):
        # The same salt and needs: salt fallen, or dissolved at full.
        for one, other in (((layer(0, 1),), (layer(3, 1),)), ((layer(0, 3), RAIN), (FALLEN, layer(3, 1), RAIN))):
            self.assertEqual(salt_of(one), salt_of(other))
            self.assertEqual(need(FULL, one, FULL), need(FULL, other, FULL))
            self.unlike(FULL, one, other)

    def test_other_salt_alone(self):
        for one, other in (((), (FALLEN,)), (BRINE, (layer(0, 3),) + BRINE[1:])):
            self.assertEqual(water_of(one), water_of(other))
            self.assertEqual(need(FULL, one, FULL), need(FULL, other, FULL))
            self.unlike(FULL, one, other)

    def test_the_same_water_and_salt(self):
        for one, other in (
            ((layer(3, 1), RAIN), (layer(10, 1),)),
            ((layer(3, 1), layer(5, 1)), (layer(8, 2),)),
            ((layer(3, 1), layer(5, 1)), (layer("7/2", 1), layer("9/2", 1))),
            ((FALLEN, layer(9, 1)), (layer(9, 3),)),
            ((FALLEN, RAIN), (layer(7, 2),)),
            ((layer(0, 1), layer(9, 3)), (layer(0, 2), layer(9, 2))),
            ((layer(3, 1), layer(7, 1), layer(2, 0)), (layer(3, 1), layer(9, 1))),
        ):
            self.assertEqual((water_of(one), salt_of(one)), (water_of(other), salt_of(other)))
            self.unlike(FULL, one, other)

    def test_alike_but_for_one_need(self):
        # The same water, salt and need for full: only the brines' own strengths tell them apart.
        one, other = (layer(4, 1), layer(6, 1)), (layer(10, 2),)
        self.assertEqual((water_of(one), salt_of(one)), (water_of(other), salt_of(other)))
        self.assertEqual(need(FULL, one, FULL), need(FULL, other, FULL))
        self.unlike(FULL, one, other)

    def test_strengths_of_the_first_alone_and_of_the_second_alone_count(self):
        lone, parted = (layer(10, 2),), (layer(4, 1), layer(6, 1))
        self.assertEqual(need(FULL, lone, (1, 6)), need(FULL, parted, (1, 6)))
        self.assertNotEqual(need(FULL, lone, (1, 5)), need(FULL, parted, (1, 5)))
        self.unlike(FULL, lone, parted)

    def test_only_the_need_for_full_is_another(self):
        # No dissolved layer of either has a strength above 0: water, salt and full are all that is asked.
        one, other = (layer(0, 1), layer(3, 0)), (layer(3, 1),)
        self.assertEqual((water_of(one), salt_of(one)), (water_of(other), salt_of(other)))
        self.assertNotEqual(need(FULL, one, FULL), need(FULL, other, FULL))
        self.unlike(FULL, one, other)

    def test_many(self):
        rng = rng_of(33)
        met = {True: 0, False: 0}
        for _ in range(400):
            full = some_full(rng)
            one = some_brine(rng, full, 4)
            other = self.remade(rng, full, one)
            self.assertEqual(water_of(one), water_of(other))
            self.assertEqual(salt_of(one), salt_of(other))
            self.assertIs(alike_by_needs(full, one, other), one == other)
            self.assertIs(alike_by_needs(full, other, one), one == other)
            met[one == other] += 1
        self.assertGreater(min(met.values()), 40)

    def remade(self, rng, full, brine):
        """A brine of the same water and salt: two layers of it mixed in part, or none."""
        wet = [one for one in brine if one[0] != NOUGHT]
        if len(wet) < 2 or rng.randrange(3) == 0:
            return brine
        part = rng.choice((ONE, HALF, (1, 7)))
        two = rng.sample(wet, 2)
        mixed = [share_of((one,), part)[0] for one in two]
        left = [share_of((one,), pair(1 - worth(part))) for one in two]
        blend = (pair(sum(worth(one[0]) for one in mixed)), pair(sum(worth(one[1]) for one in mixed)))
        rest = [one for one in brine if one not in two]
        return laid(full, tuple(rest) + left[0] + left[1] + (blend,))

    def test_long_ones(self):
        one = tuple(layer(k, 1) for k in range(3, 403))
        other = one[:-2] + (layer(401 + 402, 2),)
        self.assertIs(alike_by_needs(FULL, one, one), True)
        self.unlike(FULL, one, other)


if __name__ == "__main__":
    unittest.main()
