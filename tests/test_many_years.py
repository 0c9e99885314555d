"""What many years leave, and when a brine settles (7.2, 7.3, 7.4)."""

import unittest
from fractions import Fraction

from brineways.brines import is_brine, need, salt_of, strengths, water_of
from brineways.errors import NoYear
from brineways.years import brings, gone, is_settled, settles, year_after
from support import (
    HALF, NOUGHT, ONE, STRANGE, check_brine, layer, pair, rng_of, small, some_area, some_brine, some_full,
    some_year, worth, year_otherwise,
)

FULL = (1, 3)
AREA = (2, 1)
FALLEN = layer(0, 2)
BRINE = (FALLEN, layer(3, 1), layer(5, 1))
SUN = (((2, 1), (-1, 1)),)
DRY = (SUN, ((ONE,) + layer(3, "1/2"),))
WET = ((((2, 1), (-1, 1)), (ONE, (3, 1))), ((ONE,) + layer(3, "1/2"),))
EVEN = (((ONE, (-1, 1)), (ONE, ONE)), ())
MOST = 10 ** 12


def wet_of(brine):
    return tuple(one for one in brine if one[0] != NOUGHT)


def water_brought(area, year):
    weather, inflows = year
    come = sum((worth(water) for _, water, _ in inflows), Fraction(0))
    return come + worth(area) * sum((worth(days) * worth(net) for days, net in weather), Fraction(0))


def some_balanced_year(rng, full, area):
    """A year with one spell more, so that it brings a little water, none, or loses a little."""
    weather, inflows = some_year(rng, full, 4, 3)
    days = Fraction(rng.randint(1, 6), 2)
    by = rng.choice((Fraction(0), Fraction(0), Fraction(-1, rng.randint(1, 60)), Fraction(1, 60), Fraction(-3)))
    net = (by - water_brought(area, (weather, inflows))) / (days * worth(area))
    return (weather + ((pair(days), pair(net)),), inflows)


class Gone(unittest.TestCase):
    def test_of_no_year(self):
        for brine in ((), (FALLEN,), BRINE):
            for year in (DRY, WET, EVEN):
                self.assertEqual(gone(FULL, AREA, brine, year, 0), brine)

    def test_by_hand(self):
        # Each year 3 of water with 1/2 of salt come amid, and 4 would go.
        self.assertEqual(gone(FULL, AREA, (), DRY, 1), (layer(0, "1/6"), layer(1, "1/3")))
        self.assertEqual(gone(FULL, AREA, (), DRY, MOST), (layer(0, Fraction(MOST, 2) - Fraction(1, 3)), layer(1, "1/3")))
        # Each year 6 rain, 3 come and 4 go.
        self.assertEqual(water_of(gone(FULL, AREA, (), WET, MOST)), pair(7 + 5 * (MOST - 1)))
        self.assertEqual(gone(FULL, AREA, (), EVEN, MOST), (layer(2, 0),))
        self.assertEqual(gone(FULL, ONE, (), EVEN, MOST), (layer(1, 0),))

    def test_no_year(self):
        for many in STRANGE + (-1, -MOST, MOST + 1, 10 ** 30, "1", (1, 1), [1], True, False, b"1", 1 + 0j, (0,)):
            if many not in (0, 1) or isinstance(many, (bool, complex)):
                for brine in ((), BRINE):
                    with self.assertRaises(NoYear):
                        gone(FULL, AREA, brine, DRY, many)

    def test_the_greatest_number(self):
        for many in (MOST - 1, MOST):
            self.assertIs(is_brine(FULL, gone(FULL, AREA, BRINE, DRY, many)), True)

    def test_as_going_through_them_one_by_one(self):
        rng = rng_of(101)
        for k in range(150):
            full, area = some_full(rng), some_area(rng)
            brine = some_brine(rng, full, 5)
            year = some_year(rng, full, 4, 4) if k % 2 else some_balanced_year(rng, full, area)
            now = brine
            for many in range(1, 6):
                now = year_otherwise(full, area, now, year)
                told = gone(full, area, brine, year, many)
                self.assertEqual(told, now, (full, area, brine, year, many))
                check_brine(self, told)

    def test_as_going_through_hundreds(self):
        rng = rng_of(102)
        for _ in range(6):
            full, area = some_full(rng), some_area(rng)
            brine = some_brine(rng, full, 5)
            year = some_balanced_year(rng, full, area)
            now = brine
            for many in range(1, 201):
                now = year_after(full, area, now, year)
                if many in (7, 50, 199, 200):
                    self.assertEqual(gone(full, area, brine, year, many), now)

    def test_in_two_steps(self):
        rng = rng_of(103)
        for _ in range(120):
            full, area = some_full(rng), some_area(rng)
            brine = some_brine(rng, full, 5)
            year = some_balanced_year(rng, full, area)
            one, other = (rng.choice((0, 1, 2, 30, 10 ** 6, 10 ** 11)) for _ in range(2))
            between = gone(full, area, brine, year, one)
            self.assertEqual(gone(full, area, between, year, other), gone(full, area, brine, year, one + other))

    def test_the_last_year_is_a_year(self):
        rng = rng_of(104)
        for _ in range(80):
            full, area = some_full(rng), some_area(rng)
            brine = some_brine(rng, full, 5)
            year = some_balanced_year(rng, full, area)
            for many in (10 ** 6, MOST - 1):
                told = gone(full, area, brine, year, many)
                self.assertIs(is_brine(full, told), True)
                self.assertEqual(gone(full, area, brine, year, many + 1), year_otherwise(full, area, told, year))
                come = sum((worth(salt) for _, _, salt in year[1]), Fraction(0))
                self.assertEqual(worth(salt_of(told)), worth(salt_of(brine)) + many * come)

    def test_needs_of_what_is_told(self):
        rng = rng_of(105)
        for _ in range(60):
            full, area = some_full(rng), some_area(rng)
            brine = some_brine(rng, full, 5)
            year = some_balanced_year(rng, full, area)
            fresh = year_after(full, area, (), year)
            for many in (3, MOST):
                told = gone(full, area, brine, year, many)
                more = tuple(pair(worth(full) * Fraction(k, 9)) for k in range(1, 10))
                for strength in strengths(told) + strengths(brine) + strengths(fresh) + more:
                    by, own = worth(brings(full, area, year, strength)), worth(need(full, fresh, strength))
                    most = max(worth(need(full, brine, strength)) + many * by, own, own + (many - 1) * by)
                    self.assertEqual(worth(need(full, told, strength)), most)

    def test_a_long_brine(self):
        rng = rng_of(106)
        full = (10 ** 6, 1)
        layers = [(small(rng, 1, 10 ** 6), small(rng, 0, 10 ** 6)) for _ in range(400)]
        brine = tuple(layer(k, 1) for k in range(3, 403))
        self.assertEqual(gone(FULL, AREA, brine, DRY, 2), year_otherwise(FULL, AREA, year_otherwise(FULL, AREA, brine, DRY), DRY))
        year = (((ONE, (-1000, 1)), (ONE, (999, 1))), (((ONE,) + layers[0]), (ONE,) + layers[1]))
        for many in (1, MOST):
            told = gone(full, AREA, brine, year, many)
            self.assertEqual(year_otherwise(full, AREA, gone(full, AREA, brine, year, many - 1), year), told)


class Settled(unittest.TestCase):
    def test_by_hand(self):
        self.assertIs(is_settled(FULL, AREA, (layer(1, "1/3"),), DRY), True)
        self.assertIs(is_settled(FULL, AREA, (FALLEN, layer(1, "1/3")), DRY), True)
        for brine in ((), (FALLEN,), BRINE, (layer(1, "1/4"),), (layer("1001/1000", "1001/3000"),)):
            self.assertIs(is_settled(FULL, AREA, brine, DRY), False)
        for brine in ((), (FALLEN,), BRINE):
            self.assertIs(is_settled(FULL, AREA, brine, WET), False)
        self.assertIs(is_settled(FULL, AREA, (), (SUN, ())), True)
        self.assertIs(is_settled(FULL, AREA, (FALLEN,), (SUN, ())), True)

    def test_settles_by_hand(self):
        self.assertEqual(settles(FULL, AREA, (layer(1, "1/3"),), DRY), 0)
        self.assertEqual(settles(FULL, AREA, (FALLEN, layer(1, "1/3")), DRY), 0)
        self.assertEqual(settles(FULL, AREA, (), DRY), 1)
        self.assertEqual(settles(FULL, AREA, (), (SUN, ())), 0)
        # 8 of water, 4 less each year.
        self.assertEqual(settles(FULL, AREA, BRINE, (SUN, ())), 2)
        self.assertEqual(settles(FULL, AREA, (layer("8001/1000", 0),), (SUN, ())), 3)
        self.assertEqual(settles(FULL, AREA, (layer(4 * MOST, 0),), (SUN, ())), MOST)
        self.assertEqual(settles(FULL, AREA, (layer(400 * MOST, 0),), (SUN, ())), 100 * MOST)
        self.assertIs(settles(FULL, AREA, BRINE, WET), None)
        self.assertIs(settles(FULL, AREA, (), WET), None)

    def test_a_year_that_brings_no_water(self):
        self.assertEqual(settles(FULL, AREA, (), EVEN), 1)
        self.assertEqual(settles(FULL, AREA, (layer(2, 0),), EVEN), 0)
        self.assertEqual(settles(FULL, AREA, (layer(3, 1),), EVEN), 1)
        self.assertEqual(gone(FULL, AREA, (layer(3, 1),), EVEN, 1), (layer(0, "2/3"), layer(1, "1/3"), layer(2, 0)))
        salty = (((ONE, (-1, 1)), (ONE, HALF)), ((ONE,) + layer(1, "1/10"),))
        # The need for full: 7, a fresh year's 17/10, and 3/10 less each year.
        self.assertEqual(settles(FULL, AREA, (layer(10, 1),), salty), 18)

    def test_just_where_a_year_brings_water_it_never_is(self):
        # Rain and sun make up for each other but for the last spell, of 1 of water 1/500 a year.
        for by, of_none, of_one in (((1, 1000), None, None), (NOUGHT, 0, 0), ((-1, 1000), 0, 500)):
            year = (((ONE, ONE), (ONE, (-1, 1)), (ONE, by)), ())
            self.assertEqual(settles(FULL, AREA, (), year), of_none)
            self.assertEqual(settles(FULL, AREA, (layer(1, "1/5"),), year), of_one)

    def test_many(self):
        rng = rng_of(107)
        seen = {"none": 0, "0": 0, "1": 0, "few": 0, "many": 0}
        for k in range(260):
            full, area = some_full(rng), some_area(rng)
            brine, year = some_brine(rng, full, 5), some_balanced_year(rng, full, area)
            brine = gone(full, area, brine, year, 10 ** 6) if k % 4 == 0 else brine
            told = settles(full, area, brine, year)
            if told is None:
                self.assertGreater(water_brought(area, year), 0)
                seen["none"] += 1
                for many in (0, 1, 5, 10 ** 9):
                    self.assertIs(is_settled(full, area, gone(full, area, brine, year, many), year), False)
                continue
            self.assertIs(type(told), int)
            self.assertLessEqual(water_brought(area, year), 0)
            seen["0" if told == 0 else "1" if told == 1 else "few" if told < 50 else "many"] += 1
            for many in (told - 1, told, told + 1, told + 1000):
                if many >= 0:
                    now = gone(full, area, brine, year, many)
                    same = wet_of(year_otherwise(full, area, now, year)) == wet_of(now)
                    self.assertIs(same, many >= told, (full, area, brine, year, many, told))
                    self.assertIs(is_settled(full, area, now, year), same)
        self.assertGreater(min(seen.values()), 10, seen)

    def test_by_going_through_the_years(self):
        rng = rng_of(108)
        for _ in range(60):
            full, area = some_full(rng), some_area(rng)
            brine, year = some_brine(rng, full, 4), some_balanced_year(rng, full, area)
            told, now, many = settles(full, area, brine, year), brine, 0
            while many < 40 and wet_of(year_otherwise(full, area, now, year)) != wet_of(now):
                now, many = year_otherwise(full, area, now, year), many + 1
            if told is None or told >= 40:
                self.assertEqual(many, 40)
            else:
                self.assertEqual(many, told)


if __name__ == "__main__":
    unittest.main()
