"""What a brine has, and its strengths (2.1)."""

import unittest
from fractions import Fraction

from brineways.brines import fallen_of, salt_of, strengths, strongest, water_of, weakest
from support import NOUGHT, check_fraction, layer, pair, rng_of, some_brine, some_full, worth

FALLEN = layer(0, 2)
RAIN = layer(7, 0)
BRINE = (FALLEN, layer(3, 1), layer(4, 1), layer("5/2", "1/2"), RAIN)


class Amounts(unittest.TestCase):
    def test_by_hand(self):
        self.assertEqual(water_of(BRINE), (33, 2))
        self.assertEqual(salt_of(BRINE), (9, 2))
        self.assertEqual(fallen_of(BRINE), (2, 1))

    def test_of_nothing(self):
        for told in (water_of(()), salt_of(()), fallen_of(())):
            self.assertEqual(told, NOUGHT)

    def test_of_one_layer(self):
        self.assertEqual((water_of((FALLEN,)), salt_of((FALLEN,)), fallen_of((FALLEN,))), (NOUGHT, (2, 1), (2, 1)))
        self.assertEqual((water_of((RAIN,)), salt_of((RAIN,)), fallen_of((RAIN,))), ((7, 1), NOUGHT, NOUGHT))
        self.assertEqual(fallen_of(BRINE[1:]), NOUGHT)

    def test_many(self):
        rng = rng_of(21)
        for _ in range(150):
            brine = some_brine(rng, some_full(rng))
            self.assertEqual(water_of(brine), pair(sum((worth(one[0]) for one in brine), Fraction(0))))
            self.assertEqual(salt_of(brine), pair(sum((worth(one[1]) for one in brine), Fraction(0))))
            fallen = [worth(salt) for water, salt in brine if water == NOUGHT]
            self.assertEqual(fallen_of(brine), pair(sum(fallen, Fraction(0))))
            for told in (water_of(brine), salt_of(brine), fallen_of(brine)):
                check_fraction(self, told)


class Strengths(unittest.TestCase):
    def test_by_hand(self):
        self.assertEqual(weakest(BRINE), NOUGHT)
        self.assertEqual(strongest(BRINE), (1, 3))
        self.assertEqual(strengths(BRINE), ((1, 5), (1, 4), (1, 3)))

    def test_where_nothing_is_dissolved(self):
        for brine in ((), (FALLEN,)):
            self.assertIs(weakest(brine), None)
            self.assertIs(strongest(brine), None)
            self.assertEqual(strengths(brine), ())

    def test_of_rain_water_alone(self):
        for brine in ((RAIN,), (FALLEN, RAIN)):
            self.assertEqual(weakest(brine), NOUGHT)
            self.assertEqual(strongest(brine), NOUGHT)
            self.assertEqual(strengths(brine), ())

    def test_of_one_salty_layer(self):
        for brine in ((layer(4, 1),), (FALLEN, layer(4, 1))):
            self.assertEqual((weakest(brine), strongest(brine), strengths(brine)), ((1, 4), (1, 4), ((1, 4),)))

    def test_many(self):
        rng = rng_of(22)
        for _ in range(150):
            brine = some_brine(rng, some_full(rng))
            found = sorted(worth(salt) / worth(water) for water, salt in brine if water != NOUGHT)
            self.assertEqual(weakest(brine), pair(found[0]) if found else None)
            self.assertEqual(strongest(brine), pair(found[-1]) if found else None)
            self.assertEqual(strengths(brine), tuple(pair(one) for one in found if one > 0))
            self.assertIs(type(strengths(brine)), tuple)

    def test_a_long_one(self):
        brine = tuple(layer(k, 1) for k in range(3, 402)) + (RAIN,)
        self.assertEqual(strengths(brine), tuple((1, k) for k in range(401, 2, -1)))


if __name__ == "__main__":
    unittest.main()
