"""Deeds done, what they refuse, and how a stand passes (9.3, 9.4)."""

import unittest
from itertools import combinations

from brineways.brims import brimmed
from brineways.brines import salt_of, water_of
from brineways.draws import drawn, skimmed
from brineways.errors import BrineError, NoDeed, NoMoment, NoPan, NoRoom, NoWater, Weaker
from brineways.spells import days_of
from brineways.works import done, is_stand, passed
from otherwise import done_otherwise, passed_otherwise, refusal_otherwise, some_deed, some_stand, some_works
from support import (
    HALF, NOUGHT, ONE, STRANGE, check_brine, check_fraction, layer, pair, rng_of, salt_otherwise, some_moment,
    water_otherwise, worth,
)

FULL = (1, 3)
PANS = (((2, 1), (5, 1)), ((1, 1), (4, 1)), ((4, 1), (5, 2)))      # Rims: 10, 4, 10.
WEATHER = (((2, 1), (-1, 1)), ((1, 1), (3, 1)), ((1, 1), NOUGHT))
WORKS = (FULL, PANS, WEATHER)
FALLEN = layer(0, 2)
BRINE = (FALLEN, layer(3, 1), layer(5, 1))                          # 8 of water.
RAIN = (layer(1, 0),)
STAND = (BRINE, (), (layer(6, 1), layer(3, 0)))
STILL = (NOUGHT,) * 5


class Done(unittest.TestCase):
    def check(self, deed, stand, moved, before=STAND):
        self.assertEqual(done(WORKS, before, deed), (stand, moved), deed)

    def test_pour(self):
        self.check(("pour", 1, ONE, (1, 4)), (BRINE, (layer(1, "1/4"),), STAND[2]), (ONE, (1, 4)) + STILL[:3])
        self.check(("pour", 0, ONE, NOUGHT), (BRINE + RAIN, (), STAND[2]), (ONE, NOUGHT) + STILL[:3])
        # Of one strength with a layer that is there: one layer; stronger than those above: beneath them.
        self.check(("pour", 0, HALF, (1, 10)), (BRINE[:2] + (layer("11/2", "11/10"),), (), STAND[2]), (HALF, (1, 10)) + STILL[:3])
        self.check(("pour", 2, ONE, (1, 3)), (BRINE, (), (layer(1, "1/3"),) + STAND[2]), (ONE, (1, 3)) + STILL[:3])

    def test_pour_just_to_the_rim_and_a_little_more(self):
        self.check(("pour", 0, (2, 1), NOUGHT), (BRINE + (layer(2, 0),), (), STAND[2]), ((2, 1),) + STILL[:4])
        self.check(("pour", 1, (4, 1), ONE), (BRINE, (layer(4, 1),), STAND[2]), ((4, 1), ONE) + STILL[:3])
        for deed in (("pour", 0, (2001, 1000), NOUGHT), ("pour", 1, (4001, 1000), ONE), ("pour", 2, (3, 2), NOUGHT)):
            with self.assertRaises(NoRoom):
                done(WORKS, STAND, deed)

    def test_lead_from_beneath_and_from_above(self):
        self.check(("lead", 0, 1, (3, 1), "under", False), ((FALLEN, layer(5, 1)), (layer(3, 1),), STAND[2]), STILL)
        self.check(("lead", 0, 1, (4, 1), "under", False),
                   ((FALLEN, layer(4, "4/5")), (layer(3, 1), layer(1, "1/5")), STAND[2]), STILL)
        self.check(("lead", 0, 1, (4, 1), "over", False), ((FALLEN, layer(3, 1), layer(1, "1/5")), (layer(4, "4/5"),), STAND[2]), STILL)
        self.check(("lead", 2, 1, (4, 1), "over", True), (BRINE, (layer(1, "1/6"), layer(3, 0)), (layer(5, "5/6"),)), STILL)
        self.check(("lead", 2, 0, (2, 1), "under", True),
                   (BRINE + (layer(2, "1/3"),), (), (layer(4, "2/3"), layer(3, 0))), STILL)

    def test_lead_all_that_stands(self):
        for how in ("under", "over"):
            self.check(("lead", 0, 1, (1, 1), how, False), ((FALLEN,), (layer(1, "1/9"),), STAND[2]), STILL,
                       ((FALLEN, layer(1, "1/9")), (), STAND[2]))
            with self.assertRaises(NoRoom):
                done(WORKS, STAND, ("lead", 0, 1, (8, 1), how, False))
            self.check(("lead", 2, 0, (9, 1), how, False), ((FALLEN,) + STAND[2], (), ()), STILL, ((FALLEN,), (), STAND[2]))

    def test_let(self):
        self.check(("let", 0, (8, 1)), ((FALLEN,), (), STAND[2]), (NOUGHT, NOUGHT, (8, 1), (2, 1), NOUGHT))
        self.check(("let", 0, ONE), ((FALLEN, layer(3, 1), layer(4, "4/5")), (), STAND[2]), (NOUGHT, NOUGHT, ONE, (1, 5), NOUGHT))
        self.check(("let", 2, (3, 1)), (BRINE, (), (layer(6, 1),)), (NOUGHT, NOUGHT, (3, 1), NOUGHT, NOUGHT))
        self.check(("let", 2, (9, 1)), (BRINE, (), ()), (NOUGHT, NOUGHT, (9, 1), ONE, NOUGHT))

    def test_rake(self):
        self.check(("rake", 0), (BRINE[1:], (), STAND[2]), STILL[:4] + ((2, 1),))
        self.check(("rake", 1), STAND, STILL)
        self.check(("rake", 2), STAND, STILL)
        self.check(("rake", 1), (BRINE, (), ()), STILL[:4] + ((2, 1),), (BRINE, (FALLEN,), ()))

    def test_stir(self):
        self.check(("stir", 0), ((FALLEN, layer(8, 2)), (), STAND[2]), STILL)
        self.check(("stir", 1), STAND, STILL)
        self.check(("stir", 2), (BRINE, (), (layer(9, 1),)), STILL)
        self.check(("stir", 1), (BRINE, (FALLEN,), ()), STILL, (BRINE, (FALLEN,), ()))

    def test_fallen_salt_takes_no_room_and_is_not_led(self):
        stand = ((layer(0, 99), layer(10, 1)), (), (layer(0, 99),))
        self.check(("lead", 0, 2, (10, 1), "under", False), ((layer(0, 99),), (), (layer(0, 99), layer(10, 1))), STILL, stand)

    def test_many(self):
        rng = rng_of(211)
        met = {None: 0, NoPan: 0, NoWater: 0, NoRoom: 0, Weaker: 0}
        for _ in range(1200):
            works = some_works(rng)
            stand = some_stand(rng, works)
            deed = some_deed(rng, works, stand)
            refusal = refusal_otherwise(works, stand, deed)
            met[refusal] += 1
            if refusal is None:
                told = done(works, stand, deed)
                self.assertEqual(told, done_otherwise(stand, deed))
                self.assertIs(is_stand(works, told[0]), True)
                self.check_sums(stand, told)
            else:
                with self.assertRaises(BrineError) as caught:
                    done(works, stand, deed)
                self.assertIs(type(caught.exception), refusal, deed)
        self.assertGreater(min(met.values()), 15, met)

    def check_sums(self, stand, told):
        behind, moved = told
        self.assertEqual((type(behind), type(moved), len(moved)), (tuple, tuple, 5))
        for brine in behind:
            check_brine(self, brine)
        for one in moved:
            check_fraction(self, one)
        water_in, salt_in, water_let, salt_let, raked = [worth(one) for one in moved]
        self.assertEqual(sum(worth(water_otherwise(one)) for one in stand) + water_in,
                         sum(worth(water_otherwise(one)) for one in behind) + water_let)
        self.assertEqual(sum(worth(salt_otherwise(one)) for one in stand) + salt_in,
                         sum(worth(salt_otherwise(one)) for one in behind) + salt_let + raked)

    def test_leading_is_drawing_and_skimming(self):
        rng = rng_of(212)
        for _ in range(100):
            works = some_works(rng)
            stand = tuple(one if at == 0 else () for at, one in enumerate(some_stand(rng, works)))
            water = water_of(stand[0])
            if len(stand) > 1 and water != NOUGHT:
                part = pair(worth(water) / 3)
                for how, taking in (("under", drawn), ("over", skimmed)):
                    deed = ("lead", 0, 1, part, how, False)
                    if refusal_otherwise(works, stand, deed) is None:
                        behind = done(works, stand, deed)[0]
                        self.assertEqual((behind[1], behind[0]), taking(stand[0], part))


class Weakest(unittest.TestCase):
    def test_weaker(self):
        stand = (BRINE, (layer(1, "1/4"),), ())
        for water in (HALF, ONE, (3, 1)):
            with self.assertRaises(Weaker):
                done(WORKS, stand, ("lead", 0, 1, water, "over", False))
            self.assertEqual(done(WORKS, stand, ("lead", 0, 1, water, "over", True))[1], STILL)
        # The last layer drawn of is weaker, though the first is not.
        self.assertEqual(done(WORKS, stand, ("lead", 0, 1, (3, 1), "under", False))[1], STILL)
        with self.assertRaises(Weaker):
            done(((1, 3), (PANS[0], PANS[0], PANS[2]), WEATHER), stand, ("lead", 0, 1, (3001, 1000), "under", False))

    def test_just_as_strong(self):
        stand = ((layer(2, "1/2"),), (layer(1, "1/3"), layer(1, "1/4")), ())
        self.assertEqual(done(WORKS, stand, ("lead", 0, 1, (2, 1), "over", False))[0], ((), (layer(1, "1/3"), layer(3, "3/4")), ()))
        weaker = ((layer(2, "499/1000"),), stand[1], ())
        with self.assertRaises(Weaker):
            done(WORKS, weaker, ("lead", 0, 1, (2, 1), "over", False))

    def test_not_where_the_other_pan_has_no_water(self):
        for other in ((), (FALLEN,)):
            stand = (BRINE + RAIN, other, ())
            self.assertEqual(done(WORKS, stand, ("lead", 0, 1, ONE, "over", False))[0], (BRINE, other + RAIN, ()))

    def test_not_onto_rain_water(self):
        stand = (BRINE, RAIN, RAIN)
        self.assertEqual(done(WORKS, stand, ("lead", 0, 1, (2, 1), "over", False))[1], STILL)
        self.assertEqual(done(WORKS, stand, ("lead", 2, 1, ONE, "under", False))[0], (BRINE, (layer(2, 0),), ()))

    def test_pouring_is_not_asked(self):
        self.assertEqual(done(WORKS, STAND, ("pour", 0, ONE, NOUGHT))[0][0], BRINE + RAIN)


class Refused(unittest.TestCase):
    # What makes a leading refused so, alone or with others: pan, other, water, how, anyhow.
    STAND = ((layer(2, "1/3"), layer(4, 0)), (layer(3, 1),), (layer(9, 3),))

    def refused(self, deed, refusal, stand=None):
        for _ in range(2):
            with self.assertRaises(BrineError) as caught:
                done(WORKS, stand or self.STAND, deed)
            self.assertIs(type(caught.exception), refusal, deed)

    def test_no_deed_of_anything(self):
        for thing in STRANGE + ((), None, ("pour",), ("rake", True), ["stir", 0], ("let", 0, NOUGHT)):
            self.refused(thing, NoDeed)

    def test_no_pan(self):
        for pan in (-1, -3, 3, 99, 10 ** 20):
            for deed in (("pour", pan, ONE, NOUGHT), ("lead", pan, 0, ONE, "over", True), ("lead", 0, pan, ONE, "over", True),
                         ("lead", pan, pan, ONE, "over", True), ("let", pan, ONE), ("rake", pan), ("stir", pan)):
                self.refused(deed, NoPan)
        for pan in (0, 1, 2):
            self.refused(("lead", pan, pan, ONE, "under", True), NoPan)

    def test_no_water(self):
        self.refused(("lead", 1, 0, (3001, 1000), "under", True), NoWater)
        self.refused(("let", 1, (3001, 1000)), NoWater)
        self.refused(("let", 0, ONE), NoWater, ((FALLEN,), (), ()))
        self.refused(("let", 0, (1, 1000)), NoWater, ((), (), ()))

    def test_no_room(self):
        self.refused(("lead", 0, 1, (1001, 1000), "under", True), NoRoom)
        self.refused(("pour", 1, (1001, 1000), NOUGHT), NoRoom)

    def test_each_two_at_once(self):
        # Each fault as what it changes in ("lead", 0, 1, 1, "under", True), which is right.
        faults = {
            NoDeed: {5: 1}, NoPan: {1: 7}, NoWater: {3: (999, 1)}, NoRoom: {3: (2, 1)}, Weaker: {5: False, 4: "over"},
        }
        order = list(faults)
        right = ["lead", 0, 1, ONE, "under", True]
        self.assertEqual(done(WORKS, self.STAND, tuple(right))[1], STILL)
        for one in faults:
            self.refused(self.with_faults(right, faults[one]), one)
        for one, other in combinations(faults, 2):
            both = {**faults[other], **faults[one]}
            if one == NoDeed:
                both = {**faults[other], 5: 1}
            self.refused(self.with_faults(right, both), min(one, other, key=order.index))

    def with_faults(self, right, changed):
        return tuple(changed.get(at, part) for at, part in enumerate(right))

    def test_water_room_and_weaker_at_once(self):
        # More than stands and more than the rim holds; more than the rim holds and weaker.
        self.refused(("lead", 0, 1, (7, 1), "over", False), NoWater)
        self.refused(("lead", 0, 1, (2, 1), "over", False), NoRoom)
        self.refused(("lead", 0, 1, ONE, "over", False), Weaker)
        self.refused(("lead", 7, 7, (7, 1), "over", False), NoPan)
        self.refused(("lead", 1, 1, (7, 1), "over", False), NoPan)
        self.refused(("lead", 7, 7, (7, 1), "over", 0), NoDeed)
        self.refused(("pour", 7, (99, 1), NOUGHT), NoPan)
        self.refused(("pour", 7, (99, 1), (99, 1)), NoDeed)
        self.refused(("let", -1, (99, 1)), NoPan)


class Passed(unittest.TestCase):
    def test_by_hand(self):
        # Sun of 2 a day on pan 0, of 1 on pan 1, of 4 on pan 2; then rain of 6, 3, 12.
        self.assertEqual(passed(WORKS, STAND, NOUGHT, NOUGHT), (STAND, NOUGHT, NOUGHT, NOUGHT))
        self.assertEqual(passed(WORKS, STAND, NOUGHT, ONE),
                         (((FALLEN, layer(6, 2)), (), (layer(5, 1),)), NOUGHT, (6, 1), NOUGHT))
        behind = ((layer(0, "8/3"), layer(4, "4/3")), (), (layer(0, "2/3"), layer(1, "1/3")))
        self.assertEqual(passed(WORKS, STAND, NOUGHT, (2, 1)), (behind, NOUGHT, (12, 1), NOUGHT))
        later = (behind[0] + (layer(6, 0),), (layer(3, 0),), behind[2] + (layer(9, 0),))
        self.assertEqual(passed(WORKS, STAND, NOUGHT, (3, 1)), (later, (21, 1), (12, 1), (3, 1)))
        self.assertEqual(passed(WORKS, STAND, NOUGHT, (4, 1)), (later, (21, 1), (12, 1), (3, 1)))
        self.assertEqual(passed(WORKS, behind, (2, 1), (4, 1)), (later, (21, 1), NOUGHT, (3, 1)))
        self.assertEqual(passed(WORKS, later, (3, 1), (4, 1)), (later, NOUGHT, NOUGHT, NOUGHT))

    def test_of_no_time(self):
        for moment in (NOUGHT, HALF, ONE, (2, 1), (7, 3), (4, 1)):
            self.assertEqual(passed(WORKS, STAND, moment, moment), (STAND, NOUGHT, NOUGHT, NOUGHT))

    def test_no_moment(self):
        bad = ((-1, 1), (-1, 1000), (4001, 1000), (9, 1), (10 ** 40, 3))
        for one in bad:
            for two in ((one, ONE), (NOUGHT, one), (one, one), (one, (4, 1)), ((4, 1), one)):
                with self.assertRaises(NoMoment):
                    passed(WORKS, STAND, *two)
        for one, other in ((ONE, HALF), ((4, 1), NOUGHT), ((1001, 1000), ONE)):
            with self.assertRaises(NoMoment):
                passed(WORKS, STAND, one, other)

    def test_many(self):
        rng = rng_of(213)
        spilt = 0
        for _ in range(200):
            works = some_works(rng)
            stand = some_stand(rng, works)
            one, between, other = sorted((some_moment(rng, works[2]) for _ in range(3)), key=worth)
            told = passed(works, stand, one, other)
            self.assertEqual(told, passed_otherwise(works, stand, one, other))
            self.assertEqual((type(told), len(told)), (tuple, 4))
            self.assertIs(is_stand(works, told[0]), True)
            first = passed(works, stand, one, between)
            second = passed(works, first[0], between, other)
            self.assertEqual(told[0], second[0])
            for at in (1, 2, 3):
                check_fraction(self, told[at])
                self.assertEqual(worth(told[at]), worth(first[at]) + worth(second[at]))
            self.assertEqual(sum(worth(water_of(brine)) for brine in stand) + worth(told[1]),
                             sum(worth(water_of(brine)) for brine in told[0]) + worth(told[2]) + worth(told[3]))
            self.assertEqual([salt_of(brine) for brine in told[0]], [salt_of(brine) for brine in stand])
            spilt += told[3] != NOUGHT
        self.assertGreater(spilt, 40)

    def test_each_pan_by_itself(self):
        rng = rng_of(214)
        for _ in range(60):
            works = some_works(rng)
            stand = some_stand(rng, works)
            end = days_of(works[2])
            each = [brimmed(works[0], pan, brine, works[2], end) for pan, brine in zip(works[1], stand)]
            told = passed(works, stand, NOUGHT, end)
            self.assertEqual(told[0], tuple(one[0] for one in each))
            for at in (1, 2, 3):
                self.assertEqual(worth(told[at]), sum(worth(one[at]) for one in each))


if __name__ == "__main__":
    unittest.main()
