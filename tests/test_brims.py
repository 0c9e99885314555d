"""Pans and brims (8.2, 8.3, with 5.3)."""

import unittest
from fractions import Fraction

from brineways.brims import brim_spans, brimmed, clamp_of, is_pan, rim_of
from brineways.brines import is_brine, need, salt_of, water_of
from brineways.clamps import clamped
from brineways.errors import NoMoment, NoRoom
from brineways.spells import after, days_of
from support import (
    HALF, NOUGHT, ONE, STRANGE, check_brine, check_fraction, check_spans, dried_otherwise, ends_of, great, layer, pair,
    rained_otherwise, rng_of, small, some_area, some_brine, some_full, some_moment, some_weather, water_otherwise, worth,
)

FULL = (1, 3)
PAN = ((2, 1), (5, 1))          # Its rim: 10.
FALLEN = layer(0, 2)
BRINE = (FALLEN, layer(3, 1), layer(5, 1))
# Rain of 6, of which 4 goes over; still; sun of 4; rain of 4, at the rim at its end.
WEATHER = (((3, 1), ONE), (ONE, NOUGHT), ((2, 1), (-1, 1)), ((2, 1), ONE))
NO_MOMENTS = ((-1, 1), (-1, 1000), (8001, 1000), (9, 1), (10 ** 40, 7), (-10 ** 40, 7))
TOO_MUCH = ((layer(3, 1), layer("7001/1000", 0)), (layer("10001/1000", 0),), (FALLEN, layer(100, 1)))


def brimmed_otherwise(full, pan, brine, weather, moment, pieces=1):
    """Spell by spell, each in so many pieces, what is above the rim skimmed off the rain."""
    rim = worth(pan[0]) * worth(pan[1])
    rain, gone, over, begin = Fraction(0), Fraction(0), Fraction(0), Fraction(0)
    for days, net in weather:
        part = min(worth(days), worth(moment) - begin)
        begin += worth(days)
        for _ in range(pieces if part > 0 else 0):
            amount = worth(pan[0]) * worth(net) * part / pieces
            if amount > 0:
                above = max(Fraction(0), worth(water_otherwise(brine)) + amount - rim)
                brine = rained_otherwise(brine, pair(amount - above))
                rain, over = rain + amount, over + above
            else:
                brine, went = dried_otherwise(full, brine, pair(-amount))
                gone += worth(went)
    return brine, pair(rain), pair(gone), pair(over)


def some_pan(rng, brine):
    """A pan that holds the brine, often just so."""
    area, water = worth(some_area(rng)), worth(water_otherwise(brine))
    rim = rng.choice((water, water + Fraction(rng.randint(0, 30), 3), water * 2)) or Fraction(rng.randint(1, 20), 3)
    return (pair(area), pair(rim / area))


class IsPan(unittest.TestCase):
    def test_good_ones(self):
        for thing in (PAN, (ONE, ONE), ((1, 1000), (10 ** 6, 1)), (HALF, (7, 3))):
            self.assertIs(is_pan(thing), True)

    def test_anything_else(self):
        for thing in STRANGE + (
            (NOUGHT, ONE), (ONE, NOUGHT), ((-1, 1), ONE), (ONE, (-1, 1000)), ((-1, 1), (-1, 1)), ((2, 4), ONE), (ONE, (2, 2)),
            (ONE, (1, 0)), ((True, 1), ONE), (ONE, (1, True)), (True, True), (ONE,), (ONE, ONE, ONE), [ONE, ONE],
            ([1, 1], ONE), (ONE, [1, 1]), ONE, (1, ONE), (ONE, 1), (ONE, None), ("1", "1"), "11", (), None, {ONE: ONE}, (PAN,),
            (PAN, PAN),
        ):
            self.assertIs(is_pan(thing), False, thing)
        for thing in STRANGE:
            self.assertIs(is_pan((thing, ONE)), False, thing)
            self.assertIs(is_pan((ONE, thing)), False, thing)


class Clamps(unittest.TestCase):
    def test_rims(self):
        self.assertEqual(rim_of(PAN), (10, 1))
        self.assertEqual(rim_of(((2, 3), (9, 4))), (3, 2))
        rng = rng_of(121)
        for _ in range(50):
            pan = (small(rng, 1), small(rng, 1))
            self.assertEqual(rim_of(pan), pair(worth(pan[0]) * worth(pan[1])))
            check_fraction(self, rim_of(pan))

    def test_by_hand(self):
        self.assertEqual(clamp_of(PAN, WEATHER[:1]), ((6, 1), NOUGHT, (10, 1)))
        self.assertEqual(clamp_of(PAN, WEATHER[1:2]), (NOUGHT, NOUGHT, (10, 1)))
        self.assertEqual(clamp_of(PAN, WEATHER[:2]), ((6, 1), NOUGHT, (10, 1)))
        self.assertEqual(clamp_of(PAN, WEATHER[2:]), (NOUGHT, (4, 1), (10, 1)))
        self.assertEqual(clamp_of(PAN, WEATHER[3:] + WEATHER[2:3]), (NOUGHT, NOUGHT, (6, 1)))
        self.assertEqual(clamp_of(PAN, WEATHER), ((6, 1), (4, 1), (10, 1)))

    def test_so_the_water_is_led(self):
        rng = rng_of(122)
        for _ in range(150):
            full, weather = some_full(rng), some_weather(rng, 12)
            brine = some_brine(rng, full, 4)
            pan = some_pan(rng, brine)
            told = clamp_of(pan, weather)
            self.assertIs(type(told), tuple)
            led = clamped(told, water_of(brine))
            self.assertEqual(led, water_otherwise(brimmed_otherwise(full, pan, brine, weather, days_of(weather))[0]))
            self.assertEqual(led, water_of(brimmed(full, pan, brine, weather, days_of(weather))[0]))


class Brimmed(unittest.TestCase):
    def test_by_hand(self):
        for moment, told in (
            (NOUGHT, (BRINE, NOUGHT, NOUGHT, NOUGHT)),
            (HALF, (BRINE + (layer(1, 0),), ONE, NOUGHT, NOUGHT)),
            (ONE, (BRINE + (layer(2, 0),), (2, 1), NOUGHT, NOUGHT)),
            ((3, 2), (BRINE + (layer(2, 0),), (3, 1), NOUGHT, ONE)),
            ((3, 1), (BRINE + (layer(2, 0),), (6, 1), NOUGHT, (4, 1))),
            ((4, 1), (BRINE + (layer(2, 0),), (6, 1), NOUGHT, (4, 1))),
            ((5, 1), (BRINE, (6, 1), (2, 1), (4, 1))),
            ((6, 1), ((FALLEN, layer(6, 2)), (6, 1), (4, 1), (4, 1))),
            ((8, 1), ((FALLEN, layer(6, 2), layer(4, 0)), (10, 1), (4, 1), (4, 1))),
        ):
            self.assertEqual(brimmed(FULL, PAN, BRINE, WEATHER, moment), told)

    def test_at_the_rim_nothing_in_the_pan_changes_by_rain(self):
        weather = ((ONE, ONE), ((2, 1), (7, 2)))
        for brine in ((layer(10, 0),), (FALLEN, layer(10, 1)), (layer(9, 3), layer(1, 0)), (layer(9, 3), layer(1, "1/4"))):
            for moment, rain in ((HALF, ONE), (ONE, (2, 1)), ((3, 1), (16, 1))):
                self.assertEqual(brimmed(FULL, PAN, brine, weather, moment), (brine, rain, NOUGHT, rain))

    def test_sun_behind_what_went_over(self):
        weather = ((ONE, (7, 1)), (ONE, (-1, 1)), (ONE, (-30, 1)), (ONE, (30, 1)))
        brine = (layer(6, 2),)
        self.assertEqual(brimmed(FULL, PAN, brine, weather, (2, 1)), ((layer(6, 2), layer(2, 0)), (14, 1), (2, 1), (10, 1)))
        self.assertEqual(brimmed(FULL, PAN, brine, weather, (3, 1)), ((layer(0, 2),), (14, 1), (10, 1), (10, 1)))
        self.assertEqual(brimmed(FULL, PAN, brine, weather, (4, 1)),
                         ((layer(0, 2), layer(10, 0)), (74, 1), (10, 1), (60, 1)))

    def test_below_the_rim_it_is_as_without_one(self):
        rng = rng_of(123)
        for _ in range(60):
            full, weather = some_full(rng), some_weather(rng)
            brine = some_brine(rng, full, 4)
            pan = (some_area(rng), (10 ** 6, 1))
            moment = some_moment(rng, weather)
            self.assertEqual(brimmed(full, pan, brine, weather, moment),
                             after(full, pan[0], brine, weather, moment) + (NOUGHT,))

    def test_no_room_ahead_of_no_moment(self):
        for brine in TOO_MUCH:
            for moment in NO_MOMENTS + (NOUGHT, ONE):
                with self.assertRaises(NoRoom):
                    brimmed(FULL, PAN, brine, WEATHER, moment)
        for moment in NO_MOMENTS:
            for brine in ((), BRINE, (layer(10, 0),)):
                with self.assertRaises(NoMoment):
                    brimmed(FULL, PAN, brine, WEATHER, moment)

    def test_many(self):
        rng = rng_of(124)
        over = 0
        for _ in range(200):
            full, weather = some_full(rng), some_weather(rng, 12)
            brine = some_brine(rng, full, 5)
            pan = some_pan(rng, brine)
            moment = some_moment(rng, weather)
            told = brimmed(full, pan, brine, weather, moment)
            self.assertIs(type(told), tuple)
            self.assertEqual(told, brimmed_otherwise(full, pan, brine, weather, moment, rng.randint(1, 3)))
            check_brine(self, told[0])
            for one in told[1:]:
                check_fraction(self, one)
            self.assertIs(is_brine(full, told[0]), True)
            self.assertEqual(salt_of(told[0]), salt_of(brine))
            self.assertEqual(worth(water_of(brine)) + worth(told[1]),
                             worth(water_of(told[0])) + worth(told[2]) + worth(told[3]))
            self.assertLessEqual(worth(water_of(told[0])), worth(rim_of(pan)))
            over += told[3] != NOUGHT
        self.assertGreater(over, 50)

    def test_needs_are_led_by_no_clamp(self):
        # Weaker brine at the rim: what rains goes over, and the need stays.
        brine = (layer(10, 1),)
        left = brimmed(FULL, PAN, brine, ((ONE, ONE), (ONE, (-1, 1))), (2, 1))[0]
        self.assertEqual(worth(need(FULL, left, FULL)), worth(need(FULL, brine, FULL)) - 2)


class BrimSpans(unittest.TestCase):
    def test_by_hand(self):
        self.assertEqual(brim_spans(PAN, BRINE, WEATHER), ((ONE, (4, 1)), ((8, 1), (8, 1))))
        self.assertEqual(brim_spans(PAN, (), WEATHER), ())
        self.assertEqual(brim_spans(PAN, (layer(4, 0),), WEATHER), (((3, 1), (4, 1)), ((8, 1), (8, 1))))

    def test_the_whole_time(self):
        full_pan = (layer(9, 3), layer(1, 0))
        for weather in (((ONE, ONE),), ((ONE, NOUGHT),), ((ONE, NOUGHT), (ONE, ONE), (HALF, NOUGHT), (HALF, (9, 1)))):
            self.assertEqual(brim_spans(PAN, full_pan, weather), ((NOUGHT, days_of(weather)),))

    def test_one_moment_alone(self):
        full_pan = (layer(10, 1),)
        self.assertEqual(brim_spans(PAN, full_pan, ((ONE, (-1, 1)),)), ((NOUGHT, NOUGHT),))
        self.assertEqual(brim_spans(PAN, full_pan, ((ONE, (-1, 1)), (ONE, ONE), (ONE, (-1, 1)))),
                         ((NOUGHT, NOUGHT), ((2, 1), (2, 1))))
        self.assertEqual(brim_spans(PAN, BRINE, ((ONE, ONE),)), ((ONE, ONE),))
        self.assertEqual(brim_spans(PAN, BRINE, ((ONE, ONE), (ONE, (-1, 1)))), ((ONE, ONE),))

    def test_none(self):
        for weather in (((ONE, (-1, 1)),), ((ONE, NOUGHT),), ((ONE, (999, 1000)),)):
            self.assertEqual(brim_spans(PAN, BRINE, weather), ())

    def test_dry_between(self):
        weather = ((ONE, ONE), (ONE, (-30, 1)), ((6, 1), ONE))
        self.assertEqual(brim_spans(PAN, BRINE, weather), ((ONE, ONE), ((7, 1), (8, 1))))

    def test_no_room(self):
        for brine in TOO_MUCH:
            with self.assertRaises(NoRoom):
                brim_spans(PAN, brine, WEATHER)

    def test_just_where_water_stands_at_the_rim(self):
        rng = rng_of(125)
        met = {0: 0, 1: 0, 2: 0}
        for _ in range(120):
            full, weather = some_full(rng), some_weather(rng)
            brine = some_brine(rng, full, 4)
            pan = some_pan(rng, brine)
            rim = worth(rim_of(pan))

            def is_so(moment):
                return worth(water_otherwise(brimmed_otherwise(full, pan, brine, weather, moment)[0])) == rim

            spans, more = brim_spans(pan, brine, weather), []
            for begin, (days, net) in zip(ends_of(weather), weather):
                now = worth(water_otherwise(brimmed_otherwise(full, pan, brine, weather, pair(begin))[0]))
                rate = worth(pan[0]) * worth(net)
                if rate > 0 and (rim - now) / rate <= worth(days):
                    more.append(begin + (rim - now) / rate)
            check_spans(self, spans, weather, is_so, more)
            met[min(2, len(spans))] += 1
        self.assertGreater(min(met.values()), 15, met)

    def test_told_ones_are_handed_in_again(self):
        rng = rng_of(126)
        pan = (pair(abs(worth(great(rng)))), pair(abs(worth(great(rng)))))
        self.assertEqual(brim_spans(pan, ((rim_of(pan), NOUGHT),), ((ONE, NOUGHT),)), ((NOUGHT, ONE),))


if __name__ == "__main__":
    unittest.main()
