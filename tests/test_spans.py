"""Strong and shallow spans, and the first strong moment (5.3, 5.4, 0.6)."""

import unittest
from fractions import Fraction

from brineways.brines import need, strengths, water_of
from brineways.errors import NoMoment, NoStrength, NoWater
from brineways.spells import after, days_of, first_strong, shallow_spans, strong_spans
from support import (
    HALF, NOUGHT, ONE, check_spans, ends_of, layer, need_otherwise, pair, rng_of, some_area, some_brine,
    some_full, some_moment, some_weather, water_otherwise, worth,
)

FULL = (1, 3)
AREA = (2, 1)
FALLEN = layer(0, 2)
# Need for full: 2; for 1/5: 0. Water: 8.
BRINE = (FALLEN, layer(3, 1), layer(5, 1))
WEATHER = (((2, 1), (-1, 1)), ((1, 1), (3, 2)), ((3, 1), NOUGHT), (HALF, (-4, 1)))
NO_STRENGTHS = (NOUGHT, (-1, 1), (-1, 1000), (1001, 3000), HALF, ONE, (10 ** 30, 7))
NO_MOMENTS = ((-1, 1), (-1, 1000), (6501, 1000), (7, 1), (10 ** 40, 7), (-10 ** 40, 7))


def reaches(full, area, brine, weather, worth_of, level):
    """The moments amid spells at which a worth comes just to a level, by what stands at the spells' begins."""
    found = []
    for begin, (days, net) in zip(ends_of(weather), weather):
        now = worth_of(after(full, area, brine, weather, pair(begin))[0])
        rate = worth(area) * worth(net)
        if rate != 0 and 0 <= (level - now) / rate <= worth(days):
            found.append(begin + (level - now) / rate)
    return found


class Strong(unittest.TestCase):
    def test_by_hand(self):
        # The need for full: 2, 0 from 1 on, then rain from 2 on; the last sun takes 4.
        self.assertEqual(strong_spans(FULL, AREA, BRINE, WEATHER, FULL), ((ONE, (2, 1)), ((51, 8), (13, 2))))
        self.assertEqual(strong_spans(FULL, AREA, BRINE, WEATHER, (1, 5)), ((NOUGHT, (2, 1)), ((51, 8), (13, 2))))

    def test_the_whole_time(self):
        for weather in (((ONE, (-1, 1)),), ((ONE, NOUGHT),), ((ONE, (-1, 1)), (ONE, NOUGHT), (HALF, (-3, 1)))):
            for brine in ((), (FALLEN,), (layer(3, 1),)):
                self.assertEqual(strong_spans(FULL, AREA, brine, weather, FULL), ((NOUGHT, days_of(weather)),))

    def test_none(self):
        for weather in (((ONE, ONE),), ((ONE, NOUGHT),), ((ONE, (-999, 1000)),), ((ONE, ONE), (ONE, (-1, 1)))):
            self.assertEqual(strong_spans(FULL, AREA, BRINE, weather, FULL), ())

    def test_one_moment_where_rain_begins(self):
        rain = ((ONE, ONE),)
        self.assertEqual(strong_spans(FULL, AREA, (), rain, FULL), ((NOUGHT, NOUGHT),))
        weather = ((ONE, (-1, 1)), (ONE, ONE), (ONE, (-1, 1)))
        self.assertEqual(strong_spans(FULL, AREA, BRINE, weather, FULL), ((ONE, ONE), ((3, 1), (3, 1))))

    def test_one_moment_at_the_end(self):
        self.assertEqual(strong_spans(FULL, AREA, BRINE, ((ONE, (-1, 1)),), FULL), ((ONE, ONE),))

    def test_spans_that_meet_at_a_spells_end_are_one(self):
        weather = ((ONE, (-1, 1)), (ONE, (-1, 2)), (ONE, NOUGHT), (ONE, (-1, 1)))
        self.assertEqual(strong_spans(FULL, AREA, BRINE, weather, FULL), ((ONE, (4, 1)),))
        self.assertEqual(strong_spans(FULL, AREA, BRINE, weather, (1, 5)), ((NOUGHT, (4, 1)),))

    def test_no_strength(self):
        for strength in NO_STRENGTHS:
            for brine in ((), BRINE):
                with self.assertRaises(NoStrength):
                    strong_spans(FULL, AREA, brine, WEATHER, strength)

    def test_just_where_what_stands_is_so_strong(self):
        rng = rng_of(71)
        met = {0: 0, 1: 0, 2: 0}
        for _ in range(120):
            full, area, weather = some_full(rng), some_area(rng), some_weather(rng)
            brine = some_brine(rng, full, 4)
            strength = rng.choice(strengths(brine) + (full, pair(worth(full) * Fraction(rng.randint(1, 9), 9))))

            def is_so(moment):
                return need_otherwise(after(full, area, brine, weather, moment)[0], strength) == NOUGHT

            spans = strong_spans(full, area, brine, weather, strength)
            more = reaches(full, area, brine, weather, lambda now: worth(need_otherwise(now, strength)), 0)
            check_spans(self, spans, weather, is_so, more)
            met[min(2, len(spans))] += 1
        self.assertGreater(min(met.values()), 15)


class Shallow(unittest.TestCase):
    def test_by_hand(self):
        # Water: 8, 4 at 2, 7 from 3 to 6, 3 at the end.
        for water, told in (
            ((9, 1), ((NOUGHT, (13, 2)),)), ((8, 1), ((NOUGHT, (13, 2)),)),
            ((7, 1), ((HALF, (13, 2)),)), ((6, 1), ((ONE, (8, 3)), ((49, 8), (13, 2)))),
            ((4, 1), (((2, 1), (2, 1)), ((51, 8), (13, 2)))), ((3, 1), (((13, 2), (13, 2)),)), ((2, 1), ()), (NOUGHT, ()),
        ):
            self.assertEqual(shallow_spans(AREA, BRINE, WEATHER, water), told)

    def test_no_water_at_all(self):
        weather = (((5, 1), (-1, 1)), (ONE, ONE), ((5, 1), (-1, 1)))
        self.assertEqual(shallow_spans(AREA, BRINE, weather, NOUGHT), (((4, 1), (5, 1)), ((7, 1), (11, 1))))
        self.assertEqual(shallow_spans(AREA, (), weather, NOUGHT), ((NOUGHT, (5, 1)), ((7, 1), (11, 1))))
        self.assertEqual(shallow_spans(AREA, (FALLEN,), ((ONE, NOUGHT),), NOUGHT), ((NOUGHT, ONE),))

    def test_no_water_refused(self):
        for water in ((-1, 1), (-1, 1000), (-10 ** 40, 7)):
            for brine in ((), BRINE):
                with self.assertRaises(NoWater):
                    shallow_spans(AREA, brine, WEATHER, water)

    def test_just_where_no_more_water_stands(self):
        rng = rng_of(72)
        met = {0: 0, 1: 0, 2: 0}
        for _ in range(120):
            full, area, weather = some_full(rng), some_area(rng), some_weather(rng)
            brine = some_brine(rng, full, 4)
            now = water_of(after(full, area, brine, weather, some_moment(rng, weather))[0])
            water = rng.choice((now, now, NOUGHT, pair(Fraction(rng.randint(0, 40), 3))))

            def is_so(moment):
                standing = water_otherwise(after(full, area, brine, weather, moment)[0])
                return worth(standing) <= worth(water)

            spans = shallow_spans(area, brine, weather, water)
            more = reaches(full, area, brine, weather, lambda now: worth(water_otherwise(now)), worth(water))
            check_spans(self, spans, weather, is_so, more)
            met[min(2, len(spans))] += 1
        self.assertGreater(min(met.values()), 15)


class FirstStrong(unittest.TestCase):
    def test_by_hand(self):
        for moment, told in (
            (NOUGHT, ONE), (HALF, ONE), (ONE, ONE), ((3, 2), (3, 2)), ((2, 1), (2, 1)), ((2001, 1000), (51, 8)),
            ((6, 1), (51, 8)), ((51, 8), (51, 8)), ((13, 2), (13, 2)),
        ):
            self.assertEqual(first_strong(FULL, AREA, BRINE, WEATHER, FULL, moment), told)

    def test_none(self):
        self.assertIs(first_strong(FULL, AREA, BRINE, ((ONE, (-999, 1000)),), FULL, NOUGHT), None)
        self.assertEqual(first_strong(FULL, AREA, BRINE, ((ONE, (-1, 1)),), FULL, NOUGHT), ONE)
        weather = ((ONE, (-1, 1)), (ONE, ONE))
        self.assertEqual(first_strong(FULL, AREA, BRINE, weather, FULL, ONE), ONE)
        self.assertIs(first_strong(FULL, AREA, BRINE, weather, FULL, (1001, 1000)), None)
        self.assertIs(first_strong(FULL, AREA, BRINE, weather, FULL, (2, 1)), None)

    def test_no_strength_ahead_of_no_moment(self):
        for strength in NO_STRENGTHS:
            for moment in NO_MOMENTS + (NOUGHT, ONE, (13, 2)):
                with self.assertRaises(NoStrength):
                    first_strong(FULL, AREA, BRINE, WEATHER, strength, moment)
        for moment in NO_MOMENTS:
            for brine in ((), BRINE):
                with self.assertRaises(NoMoment):
                    first_strong(FULL, AREA, brine, WEATHER, FULL, moment)

    def test_the_very_first(self):
        rng = rng_of(73)
        found = 0
        for _ in range(150):
            full, area, weather = some_full(rng), some_area(rng), some_weather(rng)
            brine = some_brine(rng, full, 4)
            strength = rng.choice(strengths(brine) + (full,))
            moment = some_moment(rng, weather)
            told = first_strong(full, area, brine, weather, strength, moment)
            last = ends_of(weather)[-1] if told is None else worth(told)
            if told is not None:
                found += 1
                self.assertGreaterEqual(last, worth(moment))
                self.assertEqual(need(full, after(full, area, brine, weather, told)[0], strength), NOUGHT)
            marks = {worth(moment), last} | {one for one in ends_of(weather) if worth(moment) <= one <= last}
            marks = sorted(marks)
            asked = marks + [one + (other - one) * Fraction(k, 8) for one, other in zip(marks, marks[1:]) for k in (1, 4, 7)]
            asked.append(max(worth(moment), last - Fraction(1, 10 ** 9)))
            for earlier in asked:
                if told is None or earlier < last:
                    self.assertNotEqual(need(full, after(full, area, brine, weather, pair(earlier))[0], strength), NOUGHT)
        self.assertGreater(found, 50)


if __name__ == "__main__":
    unittest.main()
