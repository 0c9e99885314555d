"""Gates that open by themselves (11.1, 11.2)."""

import unittest
from fractions import Fraction

from brineways.brines import salt_of, water_of
from brineways.errors import BrineError, NoGate, NoMoment
from brineways.keeper import Keeper
from brineways.ladders import is_gates, openings, run_to
from brineways.spells import days_of, first_strong, spells_between
from brineways.works import is_stand, is_works, passed
from otherwise import (
    opened_otherwise, opens_otherwise, passed_otherwise, some_stand, some_works,
)
from support import (
    HALF, NOUGHT, ONE, STRANGE, check_brine, check_fraction, ends_of, layer, pair, rng_of, some_moment, worth,
)

FULL = (1, 3)
PAN = ((1, 1), (10, 1))
SUN = ((6, 1), (-1, 1))
WORKS = (FULL, (PAN, PAN, PAN), (SUN, ((1, 1), ONE), ((20, 1), (-1, 1))))
GATES = ((1, 5), (1, 4))
FALLEN = layer(0, 2)
BRINE = (layer(8, 1),)
NO_MOMENTS = ((-1, 1), (-1, 1000), (28, 1), (27001, 1000), (10 ** 40, 7))


class IsGates(unittest.TestCase):
    def test_good_ones(self):
        for gates in (GATES, (FULL, FULL), ((1, 1000), FULL), ((1, 7), (1, 9))):
            self.assertIs(is_gates(WORKS, gates), True)
        self.assertIs(is_gates((FULL, (PAN,), (SUN,)), ()), True)
        self.assertIs(is_gates((FULL, (PAN,) * 5, (SUN,)), (FULL,) * 4), True)

    def test_how_many(self):
        for many in (0, 1, 3, 4, 5):
            self.assertIs(is_gates(WORKS, (FULL,) * many), False)
        for many in (1, 2):
            self.assertIs(is_gates((FULL, (PAN,), (SUN,)), (FULL,) * many), False)

    def test_anything_else(self):
        for thing in STRANGE + (list(GATES), (FULL, NOUGHT), (FULL, (-1, 3)), (FULL, (334, 1000)), (FULL, (167, 500)), (FULL, (2, 6)),
                                (FULL, 1), (FULL, None), (FULL, [1, 3]), ([1, 3], FULL), (FULL, (True, 3)), "ab", {0: FULL, 1: FULL}, FULL):
            self.assertIs(is_gates(WORKS, thing), False, thing)
        for thing in STRANGE:
            self.assertIs(is_gates(WORKS, (FULL, thing)), False, thing)
            self.assertIs(is_gates(WORKS, (thing, FULL)), False, thing)
            if thing != ():
                self.assertIs(is_gates((FULL, (PAN,), (SUN,)), thing), False, thing)


class ByHand(unittest.TestCase):
    def check(self, works, gates, stand, moment, row, behind):
        self.assertEqual(openings(works, gates, stand, moment), row)
        self.assertEqual(run_to(works, gates, stand, moment), behind)

    def test_down_the_ladder(self):
        stand = (BRINE, (), ())
        self.check(WORKS, GATES, stand, NOUGHT, (), stand)
        self.check(WORKS, GATES, stand, (2999, 1000), (), ((layer("5001/1000", 1),), (), ()))
        self.check(WORKS, GATES, stand, (3, 1), (((3, 1), 0),), ((), (layer(5, 1),), ()))
        self.check(WORKS, GATES, stand, (7, 2), (((3, 1), 0),), ((), (layer("9/2", 1),), ()))
        self.check(WORKS, GATES, stand, (4, 1), (((3, 1), 0), ((4, 1), 1)), ((), (), (layer(4, 1),)))
        self.check(WORKS, GATES, stand, (6, 1), (((3, 1), 0), ((4, 1), 1)), ((), (), (layer(0, "1/3"), layer(2, "2/3"))))
        # Rain stands in all pans behind 7 days; it dries without ever being brine.
        rained = ((layer(1, 0),), (layer(1, 0),), (layer(0, "1/3"), layer(2, "2/3"), layer(1, 0)))
        self.check(WORKS, GATES, stand, (7, 1), (((3, 1), 0), ((4, 1), 1)), rained)
        self.check(WORKS, GATES, stand, (27, 1), (((3, 1), 0), ((4, 1), 1)), ((), (), (layer(0, 1),)))

    def test_at_nought(self):
        stand = ((layer(4, 1),), (), ())
        self.check(WORKS, GATES, stand, NOUGHT, ((NOUGHT, 0), (NOUGHT, 1)), ((), (), (layer(4, 1),)))
        self.check(WORKS, GATES, (stand[0], (layer(1, 0),), ()), NOUGHT, (), (stand[0], (layer(1, 0),), ()))

    def test_several_at_one_moment_with_the_greatest_number_first(self):
        strong = (layer(3, 1),)
        stand = (strong, (layer(2, "2/3"),), ())
        self.check(WORKS, GATES, stand, NOUGHT, ((NOUGHT, 1), (NOUGHT, 0)), ((), strong, stand[1]))
        four = (FULL, (PAN,) * 4, (SUN,))
        self.check(four, (FULL,) * 3, (strong, strong, (), ()), NOUGHT, ((NOUGHT, 1), (NOUGHT, 2), (NOUGHT, 0), (NOUGHT, 1)),
                   ((), (), strong, strong))
        self.check(four, (FULL,) * 3, (strong, (), (), ()), NOUGHT, ((NOUGHT, 0), (NOUGHT, 1), (NOUGHT, 2)), ((), (), (), strong))
        self.check(four, (FULL,) * 3, (strong,) * 4, NOUGHT, (), (strong,) * 4)

    def test_several_at_one_moment_amid_a_spell(self):
        stand = ((layer(6, 1),), (layer(5, 1),), ())
        self.check(WORKS, GATES, stand, ONE, ((ONE, 1), (ONE, 0)), ((), (layer(5, 1),), (layer(4, 1),)))

    def test_at_a_spells_end(self):
        works = (FULL, (PAN, PAN), (((3, 1), (-1, 1)), (ONE, ONE)))
        self.check(works, (GATES[0],), (BRINE, ()), (3, 1), (((3, 1), 0),), ((), (layer(5, 1),)))
        self.check(works, (GATES[0],), (BRINE, ()), (4, 1), (((3, 1), 0),), ((layer(1, 0),), (layer(5, 1), layer(1, 0))))
        short = (FULL, (PAN, PAN), (((2999, 1000), (-1, 1)), (ONE, ONE)))
        self.check(short, (GATES[0],), (BRINE, ()), (3, 1), (), ((layer("5001/1000", 1), layer("1/1000", 0)), (layer("1/1000", 0),)))

    def test_where_two_suns_meet(self):
        works = (FULL, (PAN, PAN), (((2, 1), (-1, 1)), (ONE, NOUGHT), ((2, 1), (-1, 2))))
        self.check(works, (GATES[0],), (BRINE, ()), (5, 1), (((5, 1), 0),), ((), (layer(5, 1),)))
        self.check(works, (GATES[0],), (BRINE, ()), (4999, 1000), (), ((layer("10001/2000", 1),), ()))
        self.check(works, ((1, 6),), (BRINE, ()), (3, 1), (((2, 1), 0),), ((), (layer(6, 1),)))

    def test_a_pan_beneath_with_fallen_salt(self):
        stand = ((FALLEN, layer(3, 1)), (layer(0, 7),), ())
        self.check(WORKS, (FULL, FULL), stand, NOUGHT, ((NOUGHT, 0), (NOUGHT, 1)), ((FALLEN,), (layer(0, 7),), (layer(3, 1),)))
        stand = ((FALLEN, layer(3, 1)), (layer(0, 7),), (layer(1, 0),))
        self.check(WORKS, (FULL, FULL), stand, NOUGHT, ((NOUGHT, 0),), ((FALLEN,), (layer(0, 7), layer(3, 1)), (layer(1, 0),)))
        # The rain in pan 2 is gone behind a day; pan 1 is full then, and its salt falls.
        self.check(WORKS, (FULL, FULL), stand, ONE, ((NOUGHT, 0), (ONE, 1)), ((FALLEN,), (layer(0, "22/3"),), (layer(2, "2/3"),)))

    def test_a_rim_too_small(self):
        works = (FULL, (PAN, ((2, 1), HALF)), (SUN,))
        stand = ((layer(3, 1),), ())
        self.check(works, (GATES[0],), stand, (1999, 1000), (), ((layer(0, "1999/3000"), layer("1001/1000", "1001/3000")), ()))
        self.check(works, (GATES[0],), stand, (2, 1), (((2, 1), 0),), ((layer(0, "2/3"),), (layer(1, "1/3"),)))
        self.check((FULL, (PAN, (ONE, (3, 1))), (SUN,)), (GATES[0],), stand, NOUGHT, ((NOUGHT, 0),), ((), stand[0]))

    def test_no_water_left(self):
        # Pan 1 dries only when pan 0 has nothing left, or later.
        for water in (3, 4, 9):
            works = (FULL, (PAN, PAN), (SUN,))
            stand = ((layer(3, 1),), (layer(water, 0),))
            dried = (layer(water - 6, 0),) if water > 6 else ()
            self.check(works, (FULL,), stand, (6, 1), (), ((layer(0, 1),), dried))
        stand = ((layer(3, 1),), (layer("2999/1000", 0),))
        self.check(works, (FULL,), stand, (2999, 1000), (((2999, 1000), 0),),
                   ((layer(0, "2999/3000"),), (layer("1/1000", "1/3000"),)))
        # Rain water alone is never strong while it is there.
        self.check(works, ((1, 1000),), ((layer(3, 0),), ()), (6, 1), (), ((), ()))

    def test_no_gates(self):
        works = (FULL, (PAN,), (SUN,))
        self.check(works, (), (BRINE,), (6, 1), (), ((layer(0, "1/3"), layer(2, "2/3")),))

    def test_over_the_rim_ahead_of_it(self):
        works = (FULL, (PAN, PAN), ((ONE, (5, 1)), ((10, 1), (-1, 1))))
        # 8 and 2 of rain, 3 goes over; then 5 must go, as from the other pan all its rain.
        self.check(works, (GATES[0],), (BRINE, ()), (6, 1), (((6, 1), 0),), ((), (layer(5, 1),)))

    def test_refusals(self):
        stand = (BRINE, (), ())
        for call in (openings, run_to):
            for gates in STRANGE + (list(GATES), GATES[:1], (FULL, NOUGHT), (FULL, HALF), None):
                for moment in (ONE,) + NO_MOMENTS:
                    with self.assertRaises(BrineError) as caught:
                        call(WORKS, gates, stand, moment)
                    self.assertIs(type(caught.exception), NoGate, gates)
            for moment in NO_MOMENTS:
                with self.assertRaises(NoMoment):
                    call(WORKS, GATES, stand, moment)


def some_gates(rng, works):
    return tuple(pair(worth(works[0]) * Fraction(rng.randint(1, 6), 6)) for _ in works[1][1:])


def some_ladder(rng):
    """Works with much sun, gates, and a stand with many empty pans."""
    full, pans, weather = some_works(rng, 5, 5, 2)
    weather = tuple((days, pair(-abs(worth(net)) / 2) if rng.randrange(3) else net) for days, net in weather)
    works = (full, pans, weather)
    stand = tuple(brine if rng.randrange(2) else tuple(one for one in brine if one[0] == NOUGHT) for brine in some_stand(rng, works))
    return works, some_gates(rng, works), stand


class Many(unittest.TestCase):
    def walk(self, works, gates, stand, row, moment):
        """Goes from opening to opening: just these open, and none between."""
        now = NOUGHT
        near = Fraction(1, 10 ** 9)
        for at, gate in row + ((moment, None),):
            marks = sorted({worth(now), worth(at)} | {end for end in ends_of(works[2]) if worth(now) < end < worth(at)})
            asked = [(one + other) / 2 for one, other in zip(marks, marks[1:])] + marks[1:-1]
            asked += [one + by for one in marks for by in (-near, near) if worth(now) < one + by < worth(at)]
            for between in asked:
                self.assertEqual(opens_otherwise(works, gates, passed_otherwise(works, stand, now, pair(between))[0]), [])
            stand = passed_otherwise(works, stand, now, at)[0]
            found = opens_otherwise(works, gates, stand)
            self.assertEqual(found[-1:], [] if gate is None else [gate])
            if gate is not None:
                stand = opened_otherwise(stand, gate)
            now = at
        return stand

    def test_walked(self):
        rng = rng_of(231)
        many = later = 0
        for _ in range(150):
            works, gates, stand = some_ladder(rng)
            moment = rng.choice((some_moment(rng, works[2]), days_of(works[2])))
            row = openings(works, gates, stand, moment)
            self.assertIs(type(row), tuple)
            for one in row:
                self.assertEqual((type(one), type(one[1])), (tuple, int))
                check_fraction(self, one[0])
            behind = run_to(works, gates, stand, moment)
            self.assertEqual(behind, self.walk(works, gates, stand, row, moment))
            self.assertIs(is_stand(works, behind), True)
            for brine in behind:
                check_brine(self, brine)
            self.assertEqual(sum(worth(salt_of(brine)) for brine in behind), sum(worth(salt_of(brine)) for brine in stand))
            many += len(row)
            later += len([one for one in row if one[0] != NOUGHT])
        self.assertGreater(many, 100)
        self.assertGreater(later, 60)

    def test_from_any_moment_on(self):
        rng = rng_of(232)
        met = 0
        for _ in range(150):
            works, gates, stand = some_ladder(rng)
            end = days_of(works[2])
            row = openings(works, gates, stand, end)
            moments = [some_moment(rng, works[2])] + [one[0] for one in row[:2]]
            for moment in moments:
                if worth(moment) < worth(end):
                    rest = (works[0], works[1], spells_between(works[2], moment, end))
                    self.assertIs(is_works(rest), True)
                    between = run_to(works, gates, stand, moment)
                    left = days_of(rest[2])
                    later = tuple((pair(worth(at) - worth(moment)), gate) for at, gate in row if worth(at) > worth(moment))
                    self.assertEqual(openings(rest, gates, between, left), later)
                    self.assertEqual(run_to(rest, gates, between, left), run_to(works, gates, stand, end))
                    self.assertEqual(openings(works, gates, stand, moment), tuple(one for one in row if worth(one[0]) <= worth(moment)))
                    met += len(later)
        self.assertGreater(met, 40)

    def test_told_to_a_keeper_as_leadings(self):
        rng = rng_of(233)
        met = 0
        for _ in range(40):
            works, gates, stand = some_ladder(rng)
            keeper = Keeper(works)
            for pan, brine in enumerate(stand):
                for water, salt in brine:
                    if water != NOUGHT:
                        keeper.tell(NOUGHT, ("pour", pan, water, salt))
            stand = keeper.stand_at(NOUGHT)
            row = openings(works, gates, stand, days_of(works[2]))
            for moment, gate in row:
                keeper.tell(moment, ("lead", gate, gate + 1, water_of(keeper.stand_at(moment)[gate]), rng.choice(("under", "over")), False))
            for moment in [some_moment(rng, works[2]) for _ in range(3)] + [one[0] for one in row]:
                self.assertEqual(keeper.stand_at(moment), run_to(works, gates, stand, moment))
            met += len(row)
        self.assertGreater(met, 20)

    def test_the_moment_is_the_first_strong_one(self):
        rng = rng_of(234)
        met = 0
        for _ in range(80):
            works, gates, stand = some_ladder(rng)
            full, pans, weather = works
            weather = weather[:1]
            works = (full, ((pans[0][0], (10 ** 6, 1)), (pans[1][0], (10 ** 6, 1))), weather)
            if worth(weather[0][1]) < 0 and water_of(stand[0]) != NOUGHT:
                first = first_strong(full, pans[0][0], stand[0], weather, gates[0], NOUGHT)
                row = openings(works, gates[:1], (stand[0], ()), days_of(weather))
                dry = first is None or water_of(passed(works, (stand[0], ()), NOUGHT, first)[0][0]) == NOUGHT
                self.assertEqual(row, () if dry else ((first, 0),))
                met += len(row)
        self.assertGreater(met, 8)


if __name__ == "__main__":
    unittest.main()
