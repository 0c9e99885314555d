"""Room in a pan: how often a lot may be poured (12.1, 12.2)."""

import unittest
from fractions import Fraction

from brineways.errors import BrineError, NoLot, NoStrength
from brineways.keeper import Keeper
from brineways.rooms import does_hold, room, room_by
from brineways.spells import days_of
from otherwise import pan_otherwise, rim_otherwise
from support import (
    HALF, NOUGHT, ONE, STRANGE, check_fraction, ends_of, laid_otherwise, layer, need_otherwise, pair, rng_of, some_area,
    some_full, some_layer, some_weather, water_otherwise, worth,
)

FULL = (1, 3)
PAN = ((2, 1), (5, 1))                                              # Its rim: 10.
SUN = ((2, 1), (-1, 1))                                             # Takes 4.
WET = (ONE, ONE)                                                    # Brings 2.
WEATHER = (SUN, WET, SUN, SUN)
LOT = (1, (2, 1), (1, 3))                                           # Its need for full: 1.
NO_STRENGTHS = (NOUGHT, (-1, 3), (334, 1000), HALF, (10 ** 30, 7))
HAIR = Fraction(1, 10 ** 9)


def holds_otherwise(full, pan, weather, lot, strength, many):
    """A lot poured so many times, walked by the words of 12.1."""
    turn, water, salt = lot
    ends = ends_of(weather)
    brine, over = (), Fraction(0)
    brine, _, _, over = pan_otherwise(full, pan, brine, weather, NOUGHT, pair(ends[turn]))
    if many > 0:
        brine = laid_otherwise(brine + (layer(worth(water) * many, worth(salt) * many),))
    if over > 0 or worth(water_otherwise(brine)) > rim_otherwise(pan):
        return False
    brine, _, _, over = pan_otherwise(full, pan, brine, weather, pair(ends[turn]), pair(ends[-1]))
    return over == 0 and need_otherwise(brine, strength) == NOUGHT


def bounds_otherwise(full, weather, lot, strength):
    """The bounds of a lot in the order of 12.2."""
    row = []
    if need_otherwise((lot[1:],), strength) != NOUGHT:
        row += [("strong", begin) for begin in range(lot[0] + 1)]
    return row + [("rim", begin, end) for begin in range(lot[0] + 1) for end in range(lot[0], len(weather) + 1)]


def lets_otherwise(full, pan, weather, lot, strength, bound):
    """How often a bound lets a lot be poured."""
    end = len(weather) if bound[0] == "strong" else bound[2]
    come = sum(worth(pan[0]) * worth(net) * worth(days) for days, net in weather[bound[1]:end])
    if bound[0] == "strong":
        return -come / worth(need_otherwise((lot[1:],), strength))
    return (rim_otherwise(pan) - come) / worth(lot[1])


def some_case(rng):
    full, weather = some_full(rng), some_weather(rng, 6)
    if rng.randrange(2):
        weather = tuple((days, pair(worth(net) - 2)) for days, net in weather)
    pan = (some_area(rng), pair(Fraction(rng.randint(1, 40), rng.randint(1, 4))))
    water, salt = some_layer(rng, full)
    if water == NOUGHT:
        water, salt = ONE, pair(worth(full) / 3)
    lot = (rng.randrange(len(weather)), water, salt)
    return full, pan, weather, lot, pair(worth(full) * Fraction(rng.randint(1, 6), 6))


class ByHand(unittest.TestCase):
    def test_rooms(self):
        for lot, strength, told in (
            # Its need for full is 1, and from turn 1 on 6 is taken, from turn 0 on 10, from 2 on 8.
            (LOT, FULL, ((4, 1), ("rim", 1, 2))),
            (LOT, (1, 6), ((4, 1), ("rim", 1, 2))),
            ((1, (2, 1), NOUGHT), FULL, ((3, 1), ("strong", 1))),
            ((2, (2, 1), NOUGHT), FULL, ((3, 1), ("strong", 1))),
            ((0, (2, 1), NOUGHT), FULL, ((5, 1), ("strong", 0))),
            ((3, (2, 1), NOUGHT), FULL, ((2, 1), ("strong", 3))),
            ((3, (2, 1), (2, 3)), FULL, ((5, 1), ("rim", 3, 3))),
            ((2, (2, 1), (2, 3)), FULL, ((4, 1), ("rim", 1, 2))),
            ((0, (2, 1), (2, 3)), FULL, ((5, 1), ("rim", 0, 0))),
        ):
            self.assertEqual(room(FULL, PAN, WEATHER, lot, strength), told, lot)

    def test_the_first_bound_that_lets_no_more(self):
        still = ((ONE, NOUGHT),) * 3
        self.assertEqual(room(FULL, PAN, still, (1, (2, 1), (2, 3)), FULL), ((5, 1), ("rim", 0, 1)))
        self.assertEqual(room(FULL, PAN, still, (1, (2, 1), (1, 3)), FULL), (NOUGHT, ("strong", 0)))
        # Both let five times: strong stands ahead.
        self.assertEqual(room(FULL, PAN, (((5, 1), (-1, 1)),), (0, (2, 1), NOUGHT), FULL), ((5, 1), ("strong", 0)))

    def test_each_bound(self):
        ask = (FULL, PAN, WEATHER, LOT, FULL)
        for bound, lets in ((("strong", 0), 10), (("strong", 1), 6), (("rim", 0, 1), 7), (("rim", 0, 2), 6), (("rim", 0, 3), 8),
                            (("rim", 0, 4), 10), (("rim", 1, 1), 5), (("rim", 1, 2), 4), (("rim", 1, 3), 6), (("rim", 1, 4), 8)):
            self.assertEqual(room_by(*ask, bound), (lets, 1), bound)

    def test_below_nought(self):
        rain = (((6, 1), ONE), ((1, 1), (-1, 1)))
        self.assertEqual(room_by(FULL, PAN, rain, (0, (2, 1), (1, 3)), FULL, ("strong", 0)), (-10, 1))
        self.assertEqual(room_by(FULL, PAN, rain, (0, (2, 1), (1, 3)), FULL, ("rim", 0, 1)), (-1, 1))
        self.assertEqual(room_by(FULL, PAN, rain, (0, (2, 1), (1, 3)), FULL, ("rim", 0, 2)), NOUGHT)

    def test_none(self):
        dry = (((9, 1), (-1, 1)),)
        over = (((6, 1), ONE),) + dry * 2
        for weather, told in (
            (((ONE, ONE),), None), (dry + ((ONE, ONE),), None), (((ONE, ONE), (HALF, (-1, 1))), None),
            (over, None), ((((5, 1), ONE),) + dry, (NOUGHT, ("rim", 0, 1))), (dry + over, None),
        ):
            for turn in range(len(weather)):
                if told is None or turn == 0:
                    for salt in (NOUGHT, (1, 3), (2, 3)):
                        self.assertEqual(room(FULL, PAN, weather, (turn, (2, 1), salt), FULL), told, (weather, turn))

    def test_a_room_of_nought(self):
        self.assertEqual(room(FULL, PAN, ((ONE, ONE), (ONE, (-1, 1))), (0, (2, 1), NOUGHT), FULL), (NOUGHT, ("strong", 0)))
        self.assertEqual(room(FULL, PAN, ((ONE, ONE), (ONE, (-1, 1))), (1, (2, 1), (2, 3)), FULL), ((4, 1), ("rim", 0, 1)))

    def test_holding(self):
        ask = (FULL, PAN, WEATHER, LOT, FULL)
        for many, told in ((NOUGHT, True), (HALF, True), ((4, 1), True), ((4001, 1000), False), ((5, 1), False), ((999, 1), False)):
            self.assertIs(does_hold(*ask, many), told, many)
        rain = (FULL, PAN, ((ONE, ONE),), (0, (2, 1), (2, 3)), FULL)
        for many in (NOUGHT, HALF, ONE, (99, 1)):
            self.assertIs(does_hold(*rain, many), False)


class Refused(unittest.TestCase):
    CALLS = (lambda *ask: room(*ask), lambda *ask: room_by(*ask, ("rim", 0, 1)), lambda *ask: does_hold(*ask, ONE))

    def refused(self, refusal, *ask):
        for call in self.CALLS:
            with self.assertRaises(BrineError) as caught:
                call(*ask)
            self.assertIs(type(caught.exception), refusal, ask)

    def test_no_lot_ahead_of_no_strength(self):
        for lot in STRANGE + (
            (4,) + LOT[1:], (-1,) + LOT[1:], (True,) + LOT[1:], (False,) + LOT[1:], (ONE,) + LOT[1:], ("1",) + LOT[1:], (10 ** 30,) + LOT[1:],
            LOT[:2], LOT + (ONE,), list(LOT), (1, NOUGHT, ONE), (1, NOUGHT, NOUGHT), (1, (-1, 1), NOUGHT), (1, ONE, (334, 1000)),
            (1, ONE, (-1, 1000)), (1, (2, 2), NOUGHT), (1, ONE, (0, 2)), (1, 1, 0), (1, [1, 1], NOUGHT), (1, (ONE, NOUGHT)), None,
        ):
            for strength in (FULL,) + NO_STRENGTHS:
                self.refused(NoLot, FULL, PAN, WEATHER, lot, strength)

    def test_no_strength(self):
        for strength in NO_STRENGTHS:
            for weather in (WEATHER, ((ONE, (99, 1)), SUN)):
                self.refused(NoStrength, FULL, PAN, weather, LOT, strength)

    def test_good_turns(self):
        for turn in range(4):
            self.assertIsNot(room(FULL, PAN, WEATHER, (turn,) + LOT[1:], FULL), None)


class Many(unittest.TestCase):
    def test_the_least_that_any_bound_lets(self):
        rng = rng_of(241)
        met = {"strong": 0, "rim": 0, None: 0}
        for _ in range(400):
            ask = some_case(rng)
            told = room(*ask)
            self.assertEqual(told is None, not holds_otherwise(*ask, Fraction(0)), ask)
            bounds = bounds_otherwise(ask[0], ask[2], ask[3], ask[4])
            lets = [lets_otherwise(*ask, bound) for bound in bounds]
            for bound, many in zip(bounds, lets):
                self.assertEqual(room_by(*ask, bound), pair(many))
            if told is not None:
                self.assertEqual(told, (pair(min(lets)), bounds[lets.index(min(lets))]))
                check_fraction(self, told[0])
                self.check_the_room(ask, worth(told[0]))
            met[None if told is None else told[1][0]] += 1
        self.assertGreater(min(met.values()), 25, met)

    def check_the_room(self, ask, many):
        """Just so often it holds, a hair more often it does not."""
        self.assertGreaterEqual(many, 0)
        for times, told in ((many, True), (many / 2, True), (Fraction(0), True), (many + HAIR, False), (many * 2 + 1, False)):
            self.assertIs(holds_otherwise(*ask, times), told, (ask, times))
            self.assertIs(does_hold(*ask, pair(times)), told, (ask, times))

    def test_holding_as_walked(self):
        rng = rng_of(242)
        met = {True: 0, False: 0}
        for _ in range(300):
            ask = some_case(rng)
            times = Fraction(rng.randint(0, 30), rng.randint(1, 12))
            told = does_hold(*ask, pair(times))
            self.assertIs(told, holds_otherwise(*ask, times))
            met[told] += 1
        self.assertGreater(min(met.values()), 40, met)

    def test_poured_by_a_keeper(self):
        rng = rng_of(243)
        met = 0
        for _ in range(120):
            full, pan, weather, lot, strength = some_case(rng)
            told = room(full, pan, weather, lot, strength)
            if told is not None and told[0] != NOUGHT:
                keeper = Keeper((full, (pan,), weather))
                at = pair(ends_of(weather)[lot[0]])
                poured = [pair(worth(told[0]) * worth(one)) for one in lot[1:]]
                keeper.tell(at, ("pour", 0, *poured))
                end = days_of(weather)
                self.assertEqual(need_otherwise(keeper.stand_at(end)[0], strength), NOUGHT)
                self.assertEqual(keeper.account_at(end)[3], NOUGHT)
                met += 1
        self.assertGreater(met, 30)


if __name__ == "__main__":
    unittest.main()
