"""Years, their parts, and years turned (7.1, 7.2, 7.5)."""

import unittest
from fractions import Fraction

from brineways.brines import is_brine, need, salt_of, strengths
from brineways.errors import NoMoment, NoStrength
from brineways.spells import after, days_of
from brineways.years import brings, gone, is_year, part_after, turned, year_after
from support import (
    HALF, NOUGHT, ONE, STRANGE, check_brine, check_fraction, ends_of, layer, need_otherwise, pair, part_otherwise,
    rng_of, salt_otherwise, some_area, some_brine, some_full, some_moment, some_year, worth, year_otherwise,
)

FULL = (1, 3)
AREA = (2, 1)
FALLEN = layer(0, 2)
BRINE = (FALLEN, layer(3, 1), layer(5, 1))
SPELL = ((2, 1), (-1, 1))
WEATHER = (SPELL, (ONE, (3, 2)), ((3, 1), (-1, 2)))
FLOW = layer(4, 1)
INFLOWS = ((NOUGHT,) + FLOW, ((2, 1), (6, 1), ONE), ((2, 1), (2, 1), NOUGHT), ((6, 1),) + FLOW)
YEAR = (WEATHER, INFLOWS)
NO_MOMENTS = ((-1, 1), (-1, 1000), (6001, 1000), (7, 1), (10 ** 40, 7), (-10 ** 40, 7))

NO_INFLOWS = (
    ((-1, 1000),) + FLOW, ((6001, 1000),) + FLOW, ((7, 1),) + FLOW,            # no moments
    (ONE,) + layer(3, "1001/1000"), (ONE,) + layer(1, 1), (ONE,) + FALLEN,     # too strong, or without water
    (ONE, NOUGHT, NOUGHT), (ONE, (-4, 1), ONE), (ONE, (4, 1), (-1, 1)),
    (ONE, FLOW), FLOW, (ONE,) + FLOW + (ONE,), (), [ONE, *FLOW], (list(ONE),) + FLOW, (ONE, [4, 1], ONE),
    ((2, 2),) + FLOW, (ONE, (8, 2), ONE), (ONE, (4, 1), (2, 2)), ((0, 3),) + FLOW, (ONE, (4, 1), (0, 2)),
    ((True, 1),) + FLOW, (ONE, (4, True), ONE), (ONE, (4, 1), (True, 1)), (True, (4, 1), ONE), (ONE, (4, 1), False),
    (ONE, (4, 1), None), (1, 4, 1), ("1", "4", "1"), "141", None,
)


class IsYear(unittest.TestCase):
    def test_good_ones(self):
        for thing in (YEAR, (WEATHER, ()), ((SPELL,), ()), ((SPELL,) * 12, ()), (WEATHER, ((ONE,) + FLOW,) * 8),
                      (WEATHER, ((NOUGHT,) + FLOW,)), (WEATHER, ((ONE, ONE, NOUGHT),)), (WEATHER, ((ONE,) + layer(3, 1),)),
                      (WEATHER, (((6, 1),) + FLOW,) * 3), (WEATHER, ((HALF,) + FLOW, ((2, 3),) + FLOW, (ONE,) + FLOW))):
            self.assertIs(is_year(FULL, thing), True, thing)

    def test_many_good_ones(self):
        rng = rng_of(91)
        for _ in range(100):
            full = some_full(rng)
            self.assertIs(is_year(full, some_year(rng, full, 12, 8)), True)

    def test_too_many(self):
        for thing in (((SPELL,) * 13, ()), (WEATHER, ((ONE,) + FLOW,) * 9), ((), ()), ((), ((NOUGHT,) + FLOW,)),
                      ((SPELL,) * 13, ((ONE,) + FLOW,)), (WEATHER, ((ONE,) + FLOW,) * 40)):
            self.assertIs(is_year(FULL, thing), False, thing)

    def test_inflows_out_of_order(self):
        for moments in ((ONE, NOUGHT), (ONE, (999, 1000)), (NOUGHT, (2, 1), ONE), ((6, 1), (3, 1)), (ONE, (2, 3))):
            inflows = tuple((moment,) + FLOW for moment in moments)
            self.assertIs(is_year(FULL, (WEATHER, inflows)), False, moments)
            self.assertIs(is_year(FULL, (WEATHER, inflows[::-1])), len(moments) == 2)

    def test_no_inflows(self):
        for thing in NO_INFLOWS:
            for inflows in ((thing,), ((NOUGHT,) + FLOW, thing), (thing, ((6, 1),) + FLOW)):
                self.assertIs(is_year(FULL, (WEATHER, inflows)), False, inflows)

    def test_the_full_strength_is_the_edge(self):
        self.assertIs(is_year((1, 4), YEAR), True)
        self.assertIs(is_year((249, 1000), YEAR), False)

    def test_no_weather(self):
        for weather in ([SPELL], ((NOUGHT, ONE),), (((-1, 1), ONE),), (((2, 4), ONE),), (((True, 1), ONE),), SPELL,
                        (list(SPELL),), "", None, 0):
            self.assertIs(is_year(FULL, (weather, ())), False, weather)

    def test_anything_else(self):
        for thing in STRANGE + ((), (WEATHER,), WEATHER, INFLOWS, [WEATHER, INFLOWS], (WEATHER, INFLOWS, ()),
                                (WEATHER, list(INFLOWS)), (list(WEATHER), INFLOWS), (INFLOWS, WEATHER), (WEATHER, None),
                                (WEATHER, []), (WEATHER, ""), (WEATHER, {}), {WEATHER: INFLOWS}, (WEATHER, FLOW)):
            self.assertIs(is_year(FULL, thing), False, thing)
        for thing in STRANGE:
            for year in ((thing, ()), (WEATHER, (thing,)), ((thing,), ()), (WEATHER, ((thing,) + FLOW,)),
                         (WEATHER, ((ONE, thing, ONE),)), (WEATHER, ((ONE, ONE, thing),))):
                self.assertIs(is_year(FULL, year), False, year)


class Parts(unittest.TestCase):
    def test_by_hand(self):
        self.assertEqual(part_after(FULL, AREA, BRINE, YEAR, NOUGHT), BRINE)
        self.assertEqual(part_after(FULL, AREA, (), YEAR, NOUGHT), ())
        # The inflow of 0 is in, and 1 of water went.
        self.assertEqual(part_after(FULL, AREA, (), YEAR, HALF), (layer(3, 1),))
        self.assertEqual(part_after(FULL, AREA, (), YEAR, ONE), (layer(0, "1/3"), layer(2, "2/3")))
        # At 2 those of 2 are not in yet, behind it they are, and rain.
        self.assertEqual(part_after(FULL, AREA, (), YEAR, (2, 1)), (layer(0, 1),))
        self.assertEqual(part_after(FULL, AREA, (), YEAR, (5, 2)), (layer(0, 1), layer(6, 1), layer("7/2", 0)))
        self.assertEqual(part_after(FULL, AREA, (), YEAR, (3, 1)), (layer(0, 1), layer(6, 1), layer(5, 0)))
        self.assertEqual(part_after(FULL, AREA, (), YEAR, (6, 1)), (layer(0, 1), layer(6, 1), layer(2, 0)))

    def test_the_whole_year_has_all(self):
        self.assertEqual(year_after(FULL, AREA, (), YEAR), (layer(0, 1), FLOW, layer(6, 1), layer(2, 0)))
        self.assertEqual(year_after(FULL, AREA, (), (WEATHER, ())), ())
        self.assertEqual(year_after(FULL, AREA, (FALLEN,), ((SPELL,), ((ONE,) + FLOW,) * 2)),
                         (layer(0, 2), layer(6, 2)))

    def test_several_at_one_moment(self):
        inflows = ((ONE,) + FLOW, (ONE, (5, 1), ONE), (ONE, ONE, NOUGHT))
        year = (((ONE, (-1, 1)), (ONE, NOUGHT)), inflows)
        self.assertEqual(part_after(FULL, AREA, (), year, ONE), ())
        self.assertEqual(part_after(FULL, AREA, (), year, (1001, 1000)), (FLOW, layer(5, 1), layer(1, 0)))
        self.assertEqual(year_after(FULL, AREA, (), year), (FLOW, layer(5, 1), layer(1, 0)))

    def test_no_moment(self):
        for moment in NO_MOMENTS:
            for brine in ((), BRINE):
                with self.assertRaises(NoMoment):
                    part_after(FULL, AREA, brine, YEAR, moment)

    def test_without_inflows_it_is_the_weather(self):
        for moment in (NOUGHT, HALF, (2, 1), (5, 2), (6, 1)):
            self.assertEqual(part_after(FULL, AREA, BRINE, (WEATHER, ()), moment),
                             after(FULL, AREA, BRINE, WEATHER, moment)[0])

    def test_many(self):
        rng = rng_of(92)
        for _ in range(200):
            full, area = some_full(rng), some_area(rng)
            brine, year = some_brine(rng, full, 4), some_year(rng, full)
            moment = rng.choice((some_moment(rng, year[0]),) + tuple(one[0] for one in year[1]))
            told = part_after(full, area, brine, year, moment)
            self.assertEqual(told, part_otherwise(full, area, brine, year, moment))
            check_brine(self, told)
            whole = year_after(full, area, brine, year)
            self.assertEqual(whole, year_otherwise(full, area, brine, year))
            self.assertIs(is_brine(full, whole), True)
            came = sum((worth(salt) for _, _, salt in year[1]), Fraction(0))
            self.assertEqual(worth(salt_of(whole)), worth(salt_otherwise(brine)) + came)

    def test_twelve_spells_and_eight_inflows(self):
        rng = rng_of(93)
        for _ in range(10):
            full, area = some_full(rng), some_area(rng)
            brine, year = some_brine(rng, full, 6), some_year(rng, full, 12, 8)
            self.assertEqual(year_after(full, area, brine, year), year_otherwise(full, area, brine, year))


class Brings(unittest.TestCase):
    def test_by_hand(self):
        # The weather brings -4; needs for full: 1, 3, 2, 1; for 1/4: 0, 2, 2, 0.
        self.assertEqual(brings(FULL, AREA, YEAR, FULL), (3, 1))
        self.assertEqual(brings(FULL, AREA, YEAR, (1, 4)), NOUGHT)
        self.assertEqual(brings(FULL, AREA, YEAR, (1, 5)), (-1, 1))
        self.assertEqual(brings(FULL, AREA, YEAR, (1, 1000)), (-2, 1))
        self.assertEqual(brings(FULL, AREA, (WEATHER, ()), (1, 4)), (-4, 1))
        self.assertEqual(brings(FULL, AREA, (((ONE, HALF),), ()), (1, 4)), ONE)

    def test_no_strength(self):
        for strength in (NOUGHT, (-1, 1), (-1, 1000), (1001, 3000), HALF, ONE, (10 ** 30, 7)):
            for year in (YEAR, (WEATHER, ())):
                with self.assertRaises(NoStrength):
                    brings(FULL, AREA, year, strength)

    def test_many(self):
        rng = rng_of(94)
        signs = {-1: 0, 0: 0, 1: 0}
        for _ in range(200):
            full, area = some_full(rng), some_area(rng)
            year = some_year(rng, full)
            strength = pair(worth(full) * Fraction(rng.randint(1, 6), 6))
            right = sum((worth(net) * worth(days) for days, net in year[0]), Fraction(0)) * worth(area)
            right += sum((worth(need_otherwise(((water, salt),), strength)) for _, water, salt in year[1]), Fraction(0))
            told = brings(full, area, year, strength)
            check_fraction(self, told)
            self.assertEqual(told, pair(right))
            signs[(right > 0) - (right < 0)] += 1
        self.assertGreater(min(signs.values()), 2)

    def test_the_need_behind_years_is_the_greatest_of_three(self):
        rng = rng_of(95)
        for _ in range(60):
            full, area = some_full(rng), some_area(rng)
            brine, year = some_brine(rng, full, 4), some_year(rng, full, 4, 3)
            fresh, now = year_otherwise(full, area, (), year), brine
            for many in range(1, 4):
                now = year_otherwise(full, area, now, year)
                for strength in strengths(now) + (full,):
                    by = worth(brings(full, area, year, strength))
                    own = worth(need(full, fresh, strength))
                    most = max(worth(need(full, brine, strength)) + many * by, own, own + (many - 1) * by)
                    self.assertEqual(worth(need(full, now, strength)), most)


class Turned(unittest.TestCase):
    def test_at_a_spells_end(self):
        told = turned(YEAR, (2, 1))
        self.assertEqual(told[0], (WEATHER[1], WEATHER[2], WEATHER[0]))
        self.assertEqual(told[1], ((NOUGHT, (6, 1), ONE), (NOUGHT, (2, 1), NOUGHT), ((4, 1),) + FLOW, ((4, 1),) + FLOW))

    def test_amid_a_spell(self):
        told = turned(YEAR, HALF)
        self.assertEqual(told[0], (((3, 2), (-1, 1)), WEATHER[1], WEATHER[2], (HALF, (-1, 1))))
        self.assertEqual(told[1], (((3, 2), (6, 1), ONE), ((3, 2), (2, 1), NOUGHT), ((11, 2),) + FLOW, ((11, 2),) + FLOW))

    def test_at_an_inflows_moment(self):
        year = (WEATHER, ((HALF,) + FLOW, (ONE, (6, 1), ONE), (ONE, ONE, NOUGHT), ((5, 1), (7, 1), ONE)))
        told = turned(year, ONE)
        self.assertEqual(told[0], ((ONE, (-1, 1)), WEATHER[1], WEATHER[2], (ONE, (-1, 1))))
        self.assertEqual(told[1], ((NOUGHT, (6, 1), ONE), (NOUGHT, ONE, NOUGHT), ((4, 1), (7, 1), ONE), ((11, 2),) + FLOW))

    def test_no_moment(self):
        for moment in NO_MOMENTS + (NOUGHT, (6, 1)):
            for year in (YEAR, (WEATHER, ())):
                with self.assertRaises(NoMoment):
                    turned(year, moment)
        self.assertEqual(turned(((SPELL,), ()), (1, 1000)), ((((1999, 1000), (-1, 1)), ((1, 1000), (-1, 1))), ()))

    def test_thirteen_spells_and_one_more(self):
        rng = rng_of(96)
        year = tuple((ONE, (k, 1)) for k in range(-6, 6)), ((ONE,) + FLOW, ((7, 2),) + FLOW)
        once = turned(year, (5, 2))
        self.assertEqual(len(once[0]), 13)
        self.assertIs(is_year(FULL, once), False)
        twice = turned(once, (1, 3))
        self.assertEqual(len(twice[0]), 14)
        self.assertEqual(len(turned(once, HALF)[0]), 13)
        brine = some_brine(rng, FULL)
        for one in (once, twice):
            self.assertEqual(days_of(one[0]), (12, 1))
            self.assertEqual(year_after(FULL, AREA, brine, one), year_otherwise(FULL, AREA, brine, one))
            self.assertEqual(gone(FULL, AREA, brine, one, 2),
                             year_otherwise(FULL, AREA, year_otherwise(FULL, AREA, brine, one), one))

    def test_parts_and_years_go_together(self):
        rng = rng_of(97)
        for _ in range(120):
            full, area = some_full(rng), some_area(rng)
            brine, year = some_brine(rng, full, 4), some_year(rng, full, 4, 4)
            inner = [one for one in ends_of(year[0])[1:-1]]
            inner += [worth(one[0]) for one in year[1] if 0 < worth(one[0]) < ends_of(year[0])[-1]]
            inner += [ends_of(year[0])[-1] * Fraction(rng.randint(1, 11), 12)]
            moment = pair(rng.choice(inner))
            told = turned(year, moment)
            self.assertIs(is_year(full, told), len(told[0]) < 13)
            self.assertEqual(days_of(told[0]), days_of(year[0]))
            begun = part_after(full, area, brine, year, moment)
            for many in (0, 1, 2, 3, 50):
                self.assertEqual(gone(full, area, begun, told, many),
                                 part_after(full, area, gone(full, area, brine, year, many), year, moment))
            self.assertEqual(year_otherwise(full, area, begun, told),
                             part_otherwise(full, area, year_otherwise(full, area, brine, year), year, moment))

    def test_a_year_turned_and_turned_back(self):
        year = (WEATHER, INFLOWS[:3])
        self.assertEqual(turned(turned(year, (2, 1)), (4, 1)), year)


if __name__ == "__main__":
    unittest.main()
