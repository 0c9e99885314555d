"""Fields, plans and their prices (13.2, 13.3, with 12.1 and 12.2)."""

import unittest
from fractions import Fraction

from brineways.errors import BrineError, NoPlan
from brineways.fits import fit_worth, prices_bound
from brineways.keeper import Keeper
from brineways.plans import best_plan, is_field, lines_of, plan_salt, prices_salt
from brineways.rooms import does_hold, room
from brineways.spells import days_of
from brineways.works import done, passed
from otherwise import pan_otherwise, rim_otherwise
from support import (
    HALF, NOUGHT, ONE, STRANGE, check_fraction, ends_of, laid_otherwise, layer, need_otherwise, pair, rng_of, some_area,
    some_full, some_layer, some_weather, water_otherwise, worth,
)

FULL = (1, 3)
PAN = ((2, 1), (5, 1))                                  # Its rim: 10.
OTHER = ((1, 1), (4, 1))                                # Its rim: 4.
SUN, WET = ((2, 1), (-1, 1)), ((1, 1), ONE)
LOT = (1, (2, 1), (1, 3))                               # Its need for full: 1.
STRONG = (0, (6, 1), (2, 1))                            # Full.
FIELD = (FULL, FULL, (PAN, OTHER), (WET, SUN), (LOT, STRONG))
RAINY = (FULL, FULL, (PAN,), (SUN, WET), (LOT,))
HAIR = Fraction(1, 10 ** 12)


def poured_otherwise(field, shares):
    """Whether shares are a plan, walked by the words of 13.2."""
    full, strength, pans, weather, lots = field
    if len(shares) != len(lots) * len(pans) or any(worth(one) < 0 for one in shares):
        return False
    rows = [shares[at * len(pans):(at + 1) * len(pans)] for at in range(len(lots))]
    if any(sum(worth(one) for one in row) > 1 for row in rows):
        return False
    return all(holds_otherwise(field, pan, [row[at] for row in rows]) for at, pan in enumerate(pans))


def holds_otherwise(field, pan, shares):
    """Whether one pan holds the shares of the lots and ends so strong."""
    full, strength, _, weather, lots = field
    brine, ends = (), ends_of(weather)
    for turn in range(len(weather)):
        for (at, water, salt), share in zip(lots, shares):
            if at == turn and worth(share) > 0:
                brine = laid_otherwise(brine + (layer(worth(water) * worth(share), worth(salt) * worth(share)),))
        if worth(water_otherwise(brine)) > rim_otherwise(pan):
            return False
        brine, _, _, over = pan_otherwise(full, pan, brine, weather, pair(ends[turn]), pair(ends[turn + 1]))
        if over > 0:
            return False
    return need_otherwise(brine, strength) == NOUGHT


def lines_otherwise(field):
    """The lines of 13.3, by its words."""
    full, strength, pans, weather, lots = field
    places = [(lot, pan) for lot in range(len(lots)) for pan in range(len(pans))]
    last = len(weather)
    lines = [(tuple(ONE if lot == at else NOUGHT for lot, _ in places), ONE) for at in range(len(lots))]

    def come(pan, one, other):
        return sum(worth(pans[pan][0]) * worth(days) * worth(net) for days, net in weather[one:other])

    for pan in range(len(pans)):
        for s in range(last):
            needs = [need_otherwise((lots[lot][1:],), strength) if at == pan and lots[lot][0] >= s else NOUGHT for lot, at in places]
            lines.append((tuple(needs), pair(-come(pan, s, last))))
        for s in range(last + 1):
            for e in range(s, last + 1):
                water = [lots[lot][1] if at == pan and s <= lots[lot][0] <= e else NOUGHT for lot, at in places]
                lines.append((tuple(water), pair(rim_otherwise(pans[pan]) - come(pan, s, e))))
    return tuple(lines)


def some_field(rng, lots=None, pans=None):
    full, weather = some_full(rng), some_weather(rng, 3)
    if rng.randrange(3):
        weather = tuple((days, pair(worth(net) - 2)) for days, net in weather)
    if rng.randrange(2):
        weather = weather[:2] + ((weather[-1][0], (-6, 1)),)
    row = []
    for _ in range(rng.randint(0, 3) if lots is None else lots):
        water, salt = some_layer(rng, full)
        row.append((rng.randrange(len(weather)), water if water != NOUGHT else ONE, NOUGHT if water == NOUGHT else salt))
    many = rng.randint(1, 2) if pans is None else pans
    row_of_pans = tuple((some_area(rng), pair(Fraction(rng.randint(1, 30), rng.randint(1, 4)))) for _ in range(many))
    return (full, pair(worth(full) * Fraction(rng.randint(1, 6), 6)), row_of_pans, weather, tuple(row))


class IsField(unittest.TestCase):
    def test_good_ones(self):
        for many in range(4):
            self.assertIs(is_field((FULL, FULL, (PAN,), (SUN,), (STRONG,) * many)), True)
        for many in (1, 2, 3):
            self.assertIs(is_field((FULL, (1, 7), (PAN, PAN), (SUN,) * many, ((many - 1, ONE, NOUGHT),))), True)
        rng = rng_of(411)
        for _ in range(40):
            self.assertIs(is_field(some_field(rng)), True)

    def test_how_many(self):
        for field in ((FULL, FULL, (), (SUN,), ()), (FULL, FULL, (PAN,) * 3, (SUN,), ()), (FULL, FULL, (PAN,), (), ()),
                      (FULL, FULL, (PAN,), (SUN,) * 4, ()), (FULL, FULL, (PAN,), (SUN,), (STRONG,) * 4)):
            self.assertIs(is_field(field), False)

    def test_anything_else(self):
        pans, weather, lots = (PAN,), (SUN, WET), (LOT,)
        for thing in STRANGE + (
            (), FIELD[:4], FIELD + ((),), list(FIELD), (NOUGHT, FULL, pans, weather, lots), (FULL, NOUGHT, pans, weather, lots),
            (FULL, HALF, pans, weather, lots), (FULL, (334, 1000), pans, weather, ()), ((2, 6), FULL, pans, weather, lots),
            (FULL, FULL, PAN, weather, lots), (FULL, FULL, list(pans), weather, lots), (FULL, FULL, pans, list(weather), lots),
            (FULL, FULL, pans, weather, list(lots)), (FULL, FULL, pans, weather, LOT), (FULL, FULL, pans, (SUN,), (LOT,)),
            (FULL, FULL, pans, weather, ((2,) + LOT[1:],)), (FULL, FULL, pans, weather, ((True,) + LOT[1:],)),
            (FULL, FULL, pans, weather, ((0, ONE, HALF),)), (FULL, FULL, pans, weather, ((0, NOUGHT, ONE),)),
            (FULL, FULL, pans, weather, (list(LOT),)), (FULL, FULL, pans, weather, (LOT, None)), None,
            ((-1, 3), (-1, 3), pans, weather, ()),
        ):
            self.assertIs(is_field(thing), False, thing)
        for thing in STRANGE:
            for at in range(5):
                self.assertIs(is_field(FIELD[:at] + (thing,) + FIELD[at + 1:]), False, thing)
            self.assertIs(is_field(FIELD[:4] + ((thing,),)), False, thing)


class LinesOf(unittest.TestCase):
    def test_by_hand(self):
        o, one = NOUGHT, ONE
        self.assertEqual(lines_of(FIELD), (
            ((one, one, o, o), one), ((o, o, one, one), one),
            # Pan 0: rain of 2, sun of 4. Its needs from turn 0 and 1 on, then its water by turns.
            ((one, o, o, o), (2, 1)), ((one, o, o, o), (4, 1)),
            ((o, o, (6, 1), o), (10, 1)), (((2, 1), o, (6, 1), o), (8, 1)), (((2, 1), o, (6, 1), o), (12, 1)),
            (((2, 1), o, o, o), (10, 1)), (((2, 1), o, o, o), (14, 1)), ((o, o, o, o), (10, 1)),
            # Pan 1: rain of 1, sun of 2.
            ((o, one, o, o), one), ((o, one, o, o), (2, 1)),
            ((o, o, o, (6, 1)), (4, 1)), ((o, (2, 1), o, (6, 1)), (3, 1)), ((o, (2, 1), o, (6, 1)), (5, 1)),
            ((o, (2, 1), o, o), (4, 1)), ((o, (2, 1), o, o), (6, 1)), ((o, o, o, o), (4, 1)),
        ))

    def test_bounds_below_nought(self):
        self.assertEqual(lines_of(RAINY), (
            ((ONE,), ONE), ((ONE,), (2, 1)), ((ONE,), (-2, 1)), ((NOUGHT,), (10, 1)), (((2, 1),), (14, 1)), (((2, 1),), (12, 1)),
            (((2, 1),), (10, 1)), (((2, 1),), (8, 1)), ((NOUGHT,), (10, 1)),
        ))

    def test_no_lots(self):
        self.assertEqual(lines_of((FULL, FULL, (PAN,), (SUN,), ())), (((), (4, 1)), ((), (10, 1)), ((), (14, 1)), ((), (10, 1))))

    def test_many(self):
        rng = rng_of(412)
        for _ in range(120):
            field = some_field(rng)
            lines = lines_of(field)
            self.assertEqual(lines, lines_otherwise(field))
            last, many = len(field[3]), len(field[2])
            self.assertEqual(len(lines), len(field[4]) + many * (last + (last + 1) * (last + 2) // 2))
            for numbers, bound in lines:
                self.assertEqual((type(numbers), len(numbers)), (tuple, len(field[4]) * many))
                for one in numbers + (bound,):
                    check_fraction(self, one)


class BestPlan(unittest.TestCase):
    def test_by_hand(self):
        # In pan 0 the whole first lot, its need 1 of 2 that the sun takes, with all of the second: 8, just the room.
        salt, shares, prices = best_plan(FIELD)
        self.assertEqual(salt, (7, 3))
        self.assertEqual(plan_salt(FIELD, shares), salt)
        self.assertEqual(prices_salt(FIELD, prices), salt)
        self.assertEqual(plan_salt(FIELD, (ONE, NOUGHT, ONE, NOUGHT)), (7, 3))
        self.assertEqual(best_plan((FULL, FULL, (PAN,), (SUN,), ()))[:2], (NOUGHT, ()))
        self.assertEqual(best_plan((FULL, FULL, (OTHER,), (SUN,), (STRONG,)))[:2], ((4, 3), ((2, 3),)))

    def test_none_by_rain_alone(self):
        self.assertIs(best_plan(RAINY), None)
        self.assertIs(best_plan((FULL, FULL, (PAN, OTHER), (((6, 1), ONE), ((9, 1), (-1, 1))), (STRONG,))), None)
        self.assertIs(best_plan((FULL, FULL, (PAN,), (WET,), ())), None)
        # Just to the rim, and all gone: bounds of nought are fine.
        self.assertEqual(best_plan((FULL, FULL, (PAN,), (((5, 1), ONE), ((5, 1), (-1, 1))), (STRONG,)))[:2], (NOUGHT, (NOUGHT,)))

    def test_many(self):
        rng = rng_of(413)
        met = {"none": 0, "nought": 0, "some": 0}
        for _ in range(250):
            field = some_field(rng)
            told = best_plan(field)
            rain = any(worth(bound) < 0 for _, bound in lines_otherwise(field))
            self.assertEqual(told is None, rain)
            self.assertEqual(rain, not poured_otherwise(field, (NOUGHT,) * (len(field[4]) * len(field[2]))))
            if told is not None:
                self.check_plan(field, told)
            met["none" if told is None else "nought" if told[0] == NOUGHT else "some"] += 1
        self.assertGreater(min(met.values()), 30, met)

    def check_plan(self, field, told):
        self.assertEqual((type(told), len(told)), (tuple, 3))
        salt, shares, prices = told
        for one in (salt,) + shares + prices:
            check_fraction(self, one)
        self.assertIs(poured_otherwise(field, shares), True)
        gains = tuple(lot[2] for lot in field[4] for _ in field[2])
        self.assertEqual(worth(salt), sum(worth(gain) * worth(share) for gain, share in zip(gains, shares)))
        self.assertEqual((plan_salt(field, shares), prices_salt(field, prices)), (salt, salt))
        self.assertEqual(fit_worth(gains, lines_otherwise(field), shares), salt)
        self.assertEqual(prices_bound(gains, lines_otherwise(field), prices), salt)

    def test_the_works_so_led_give_it(self):
        rng = rng_of(414)
        met = 0
        for _ in range(120):
            field = some_field(rng)
            full, strength, pans, weather, lots = field
            told = best_plan(field)
            if told is not None:
                keeper = Keeper((full, pans, weather))
                for at, share in enumerate(told[1]):
                    turn, water, salt = lots[at // len(pans)]
                    if share != NOUGHT:
                        poured = (pair(worth(water) * worth(share)), pair(worth(salt) * worth(share)))
                        keeper.tell(pair(ends_of(weather)[turn]), ("pour", at % len(pans)) + poured)
                        met += 1
                end = days_of(weather)
                account = keeper.account_at(end)
                self.assertEqual((account[3], account[5]), (NOUGHT, told[0]))
                for brine in keeper.stand_at(end):
                    self.assertEqual(need_otherwise(brine, strength), NOUGHT)
        self.assertGreater(met, 60)

    def test_by_the_works_own_functions(self):
        works = (FULL, FIELD[2], FIELD[3])
        shares = best_plan(FIELD)[1]
        stand = ((), ())
        for turn, (one, other) in enumerate((((0, 1), (1, 1)), ((1, 1), (3, 1)))):
            for at, share in enumerate(shares):
                lot = FIELD[4][at // 2]
                if lot[0] == turn and share != NOUGHT:
                    poured = tuple(pair(worth(part) * worth(share)) for part in lot[1:])
                    stand = done(works, stand, ("pour", at % 2) + poured)[0]
            stand, _, _, over = passed(works, stand, one, other)
            self.assertEqual(over, NOUGHT)
        for brine in stand:
            self.assertEqual(need_otherwise(brine, FULL), NOUGHT)

    def test_one_lot_by_its_room(self):
        rng = rng_of(415)
        met = 0
        for _ in range(150):
            field = some_field(rng, 1, 1)
            full, strength, pans, weather, lots = field
            told, by_room = best_plan(field), room(full, pans[0], weather, lots[0], strength)
            self.assertEqual(told is None, by_room is None)
            if told is not None:
                most = min(Fraction(1), worth(by_room[0]))
                self.assertEqual(worth(told[0]), worth(lots[0][2]) * most)
                self.assertEqual(plan_salt(field, (pair(most),)), told[0])
                self.assertIs(plan_salt(field, (pair(most + HAIR),)), None)
                self.assertIs(does_hold(full, pans[0], weather, lots[0], strength, told[1][0]), True)
                met += 1
        self.assertGreater(met, 50)


class Judges(unittest.TestCase):
    def test_right_and_wrong_plans(self):
        for shares, told in (
            ((ONE, NOUGHT, ONE, NOUGHT), (7, 3)), ((NOUGHT,) * 4, NOUGHT), ((NOUGHT, ONE, NOUGHT, NOUGHT), (1, 3)),
            ((NOUGHT, NOUGHT, ONE, NOUGHT), (2, 1)), ((HALF, HALF, HALF, (1, 4)), (11, 6)),
            ((pair(1 + HAIR), NOUGHT, ONE, NOUGHT), None), ((ONE, NOUGHT, pair(1 + HAIR), NOUGHT), None), ((HALF, HALF, HALF, HALF), None),
            ((pair(-HAIR), NOUGHT, ONE, NOUGHT), None), ((ONE, pair(HAIR), NOUGHT, NOUGHT), None), ((NOUGHT, NOUGHT, NOUGHT, ONE), None),
        ):
            self.assertEqual(plan_salt(FIELD, shares), told, shares)
            self.assertIs(poured_otherwise(FIELD, shares), told is not None, shares)

    def test_other_lengths(self):
        many = len(lines_of(FIELD))
        for length in (0, 1, 2, 3, 5, 8, many):
            self.assertIs(plan_salt(FIELD, (NOUGHT,) * length), None)
        for length in (0, 1, 4, many - 1, many + 1):
            self.assertIs(prices_salt(FIELD, ((9, 1),) * length), None)
        self.assertIsNot(prices_salt(FIELD, ((9, 1),) * many), None)

    def test_prices_of_bounds_below_nought(self):
        row = [NOUGHT] * 9
        row[2] = (5, 1)
        self.assertEqual(prices_salt(RAINY, tuple(row)), (-10, 1))
        row[2] = pair(Fraction(1, 3) - HAIR)
        self.assertIs(prices_salt(RAINY, tuple(row)), None)
        self.assertIs(plan_salt(RAINY, (NOUGHT,)), None)
        self.assertIs(plan_salt(RAINY, (HALF,)), None)

    def test_just_where_they_are_a_plan(self):
        rng = rng_of(416)
        met = {True: 0, False: 0}
        for _ in range(500):
            field = some_field(rng)
            many = len(field[4]) * len(field[2])
            shares = tuple(pair(Fraction(rng.randint(0, 4), 4 * rng.choice((1, 2, 4, 12)))) for _ in range(many))
            told = plan_salt(field, shares)
            self.assertIs(told is not None, poured_otherwise(field, shares))
            met[told is not None] += 1
            if told is not None:
                self.assertLessEqual(worth(told), worth(best_plan(field)[0]))
        self.assertGreater(min(met.values()), 60, met)

    def test_told_ones_moved_by_a_hair(self):
        rng = rng_of(417)
        for _ in range(60):
            field = some_field(rng)
            told = best_plan(field)
            if told is not None:
                salt, shares, prices = told
                for at in range(len(shares)):
                    for by in (HAIR, -HAIR):
                        row = shares[:at] + (pair(worth(shares[at]) + by),) + shares[at + 1:]
                        self.assertIs(plan_salt(field, row) is not None, poured_otherwise(field, row))
                for at in range(len(prices)):
                    row = prices[:at] + (pair(worth(prices[at]) - HAIR),) + prices[at + 1:]
                    found = prices_salt(field, row)
                    # Cheaper and still prices: then its line's bound is nought.
                    self.assertTrue(found is None or worth(found) >= worth(salt))


class Refused(unittest.TestCase):
    def test_no_plan_of_anything(self):
        for thing in STRANGE + (FIELD[:4], list(FIELD), FIELD[:4] + ([LOT],), FIELD[:1] + (HALF,) + FIELD[2:], None, ()):
            for call in (lines_of, best_plan, lambda field: plan_salt(field, (ONE,)), lambda field: prices_salt(field, (ONE,))):
                with self.assertRaises(BrineError) as caught:
                    call(thing)
                self.assertIs(type(caught.exception), NoPlan, thing)


if __name__ == "__main__":
    unittest.main()
