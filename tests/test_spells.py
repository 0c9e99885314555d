"""Spells of sun and rain (5.1, 5.2)."""

import unittest
from fractions import Fraction

from brineways.brines import is_brine, need, salt_of, strengths, water_of
from brineways.errors import NoMoment
from brineways.spells import after, days_of, fallen_by, is_weather
from support import (
    HALF, NOUGHT, ONE, STRANGE, after_otherwise, check_brine, check_fraction, ends_of, layer, pair, rng_of,
    some_area, some_brine, some_full, some_moment, some_spell, some_weather, worth,
)

FULL = (1, 3)
AREA = (2, 1)
FALLEN = layer(0, 2)
BRINE = (FALLEN, layer(3, 1), layer(5, 1))
# Sun for 2 days, rain for 1, still for 3, sun for a half.
WEATHER = (((2, 1), (-1, 1)), ((1, 1), (3, 2)), ((3, 1), NOUGHT), (HALF, (-4, 1)))
SPELL = WEATHER[0]

NO_WEATHERS = (
    (), (SPELL,) * 13, (SPELL,) * 40, [SPELL], [list(SPELL)], (list(SPELL),), (SPELL, list(SPELL)),
    ((NOUGHT, ONE),), (((-1, 1), ONE),), (SPELL, (NOUGHT, ONE)), (SPELL, ((-1, 1000), ONE)),
    (((2, 4), ONE),), ((ONE, (2, 4)),), ((ONE, (0, 3)),), (((1, 0), ONE),), ((ONE, (1, 0)),), ((ONE, (1, -2)),),
    (((True, 1), ONE),), (((1, True), ONE),), ((ONE, (False, 1)),), ((ONE, (0, True)),), ((True, False),),
    SPELL, (ONE, ONE, ONE), (SPELL + (ONE,),), ((ONE,),), ((1, 1),), ((ONE, 1),), ((ONE, None),), (SPELL, None),
    ((ONE, [1, 1]),), (([1, 1], ONE),), (("1", "2"),), "12", ("12",), (SPELL, "12"), {SPELL: SPELL}, {SPELL},
)


class IsWeather(unittest.TestCase):
    def test_good_ones(self):
        rng = rng_of(61)
        for many in range(1, 13):
            self.assertIs(is_weather((SPELL,) * many), True)
            self.assertIs(is_weather(tuple(some_spell(rng) for _ in range(many))), True)
        self.assertIs(is_weather((((1, 1000), (-10 ** 6, 1)),)), True)
        self.assertIs(is_weather(((ONE, NOUGHT),)), True)

    def test_one_too_many(self):
        rng = rng_of(62)
        for many in (0, 13, 14, 400):
            self.assertIs(is_weather(tuple(some_spell(rng) for _ in range(many))), False)

    def test_anything_else(self):
        for thing in NO_WEATHERS + STRANGE:
            self.assertIs(is_weather(thing), False, thing)
        for thing in STRANGE:
            for weather in ((thing,), (SPELL, thing), (thing, SPELL), ((thing, ONE),), ((ONE, thing),)):
                self.assertIs(is_weather(weather), False, weather)


class Days(unittest.TestCase):
    def test_by_hand(self):
        self.assertEqual(days_of(WEATHER), (13, 2))
        self.assertEqual(days_of((SPELL,)), (2, 1))

    def test_many(self):
        rng = rng_of(63)
        for _ in range(60):
            weather = some_weather(rng, 12)
            self.assertEqual(days_of(weather), pair(ends_of(weather)[-1]))
            check_fraction(self, days_of(weather))


class FallenBy(unittest.TestCase):
    def test_by_hand(self):
        for moment, told in ((NOUGHT, NOUGHT), (HALF, (-1, 1)), ((2, 1), (-4, 1)), ((7, 3), (-3, 1)), ((3, 1), (-1, 1)),
                             ((5, 1), (-1, 1)), ((6, 1), (-1, 1)), ((25, 4), (-3, 1)), ((13, 2), (-5, 1))):
            self.assertEqual(fallen_by(AREA, WEATHER, moment), told)

    def test_many(self):
        rng = rng_of(64)
        for _ in range(150):
            area, weather = some_area(rng), some_weather(rng, 12)
            moment = some_moment(rng, weather)
            total, begin = Fraction(0), Fraction(0)
            for days, net in weather:
                total += max(Fraction(0), min(worth(days), worth(moment) - begin)) * worth(net)
                begin += worth(days)
            self.assertEqual(fallen_by(area, weather, moment), pair(total * worth(area)))
            check_fraction(self, fallen_by(area, weather, moment))

    def test_no_moment(self):
        for moment in ((-1, 1), (-1, 1000), (6501, 1000), (7, 1), (10 ** 40, 7), (-10 ** 40, 7)):
            with self.assertRaises(NoMoment):
                fallen_by(AREA, WEATHER, moment)


class After(unittest.TestCase):
    def test_by_hand(self):
        # Need for full: 2. Full at 1, then 2 of water and 2/3 of salt go.
        for moment, told in (
            (NOUGHT, (BRINE, NOUGHT, NOUGHT)),
            (HALF, ((FALLEN, layer(3, 1), layer(4, 1)), NOUGHT, ONE)),
            (ONE, ((FALLEN, layer(6, 2)), NOUGHT, (2, 1))),
            ((2, 1), ((layer(0, "8/3"), layer(4, "4/3")), NOUGHT, (4, 1))),
            ((5, 2), ((layer(0, "8/3"), layer(4, "4/3"), layer("3/2", 0)), (3, 2), (4, 1))),
            ((3, 1), ((layer(0, "8/3"), layer(4, "4/3"), layer(3, 0)), (3, 1), (4, 1))),
            ((6, 1), ((layer(0, "8/3"), layer(4, "4/3"), layer(3, 0)), (3, 1), (4, 1))),
            ((13, 2), ((layer(0, 3), layer(3, 1)), (3, 1), (8, 1))),
        ):
            self.assertEqual(after(FULL, AREA, BRINE, WEATHER, moment), told)

    def test_more_sun_than_water(self):
        weather = (((5, 1), (-1, 1)), (ONE, ONE), ((5, 1), (-1, 1)))
        self.assertEqual(after(FULL, AREA, BRINE, weather, (5, 1)), ((layer(0, 4),), NOUGHT, (8, 1)))
        self.assertEqual(after(FULL, AREA, BRINE, weather, (6, 1)), ((layer(0, 4), layer(2, 0)), (2, 1), (8, 1)))
        self.assertEqual(after(FULL, AREA, BRINE, weather, (11, 1)), ((layer(0, 4),), (2, 1), (10, 1)))
        self.assertEqual(after(FULL, AREA, (), weather, (11, 1)), ((), (2, 1), (2, 1)))

    def test_nets_of_nought(self):
        weather = ((ONE, NOUGHT), ((2, 1), NOUGHT))
        for brine in ((), BRINE):
            for moment in (NOUGHT, HALF, ONE, (3, 1)):
                self.assertEqual(after(FULL, AREA, brine, weather, moment), (brine, NOUGHT, NOUGHT))

    def test_no_moment(self):
        for brine in ((), BRINE):
            for moment in ((-1, 1), (-1, 1000), (6501, 1000), (7, 1), (10 ** 40, 7), (-10 ** 40, 7)):
                with self.assertRaises(NoMoment):
                    after(FULL, AREA, brine, WEATHER, moment)

    def test_many(self):
        rng = rng_of(65)
        for _ in range(200):
            full, area, weather = some_full(rng), some_area(rng), some_weather(rng, 12)
            brine = some_brine(rng, full)
            moment = some_moment(rng, weather)
            told = after(full, area, brine, weather, moment)
            self.assertEqual(told, after_otherwise(full, area, brine, weather, moment, rng.randint(1, 3)))
            self.assertIs(type(told), tuple)
            check_brine(self, told[0])
            check_fraction(self, told[1])
            check_fraction(self, told[2])

    def test_water_and_salt_are_neither_made_nor_lost(self):
        rng = rng_of(66)
        for _ in range(100):
            full, area, weather = some_full(rng), some_area(rng), some_weather(rng, 12)
            brine = some_brine(rng, full)
            moment = some_moment(rng, weather)
            left, rain, gone = after(full, area, brine, weather, moment)
            self.assertIs(is_brine(full, left), True)
            self.assertEqual(salt_of(left), salt_of(brine))
            self.assertEqual(worth(water_of(left)), worth(water_of(brine)) + worth(rain) - worth(gone))

    def test_in_two_steps(self):
        rng = rng_of(67)
        for _ in range(60):
            full, area, weather = some_full(rng), some_area(rng), some_weather(rng, 6)
            brine = some_brine(rng, full)
            at = rng.randint(1, len(weather))
            first = after(full, area, brine, weather, days_of(weather[:at]))
            if at < len(weather):
                second = after(full, area, first[0], weather[at:], days_of(weather[at:]))
                sums = [pair(worth(one) + worth(other)) for one, other in zip(first[1:], second[1:])]
                self.assertEqual(after(full, area, brine, weather, days_of(weather)), (second[0], *sums))

    def test_a_long_brine(self):
        brine = tuple(layer(k, 1) for k in range(3, 403))
        weather = tuple((ONE, (-5000, 1) if k % 2 == 0 else (10, 1)) for k in range(12))
        for moment in (ONE, (9, 2), (12, 1)):
            told = after(FULL, AREA, brine, weather, moment)
            self.assertEqual(told, after_otherwise(FULL, AREA, brine, weather, moment))

    def test_thirteen_spells_as_a_turned_year_has_them(self):
        weather = (SPELL,) * 13
        self.assertEqual(days_of(weather), (26, 1))
        self.assertEqual(after(FULL, AREA, BRINE, weather, (26, 1)), ((layer(0, 4),), NOUGHT, (8, 1)))

    def test_needs_of_what_stands(self):
        for strength in strengths(BRINE) + (FULL,):
            before = need(FULL, BRINE, strength)
            left = after(FULL, AREA, BRINE, WEATHER, HALF)[0]
            self.assertEqual(worth(need(FULL, left, strength)), max(Fraction(0), worth(before) - 1))


if __name__ == "__main__":
    unittest.main()
