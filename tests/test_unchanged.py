"""Nothing handed in is changed, and the same asked again is told alike (0.2, 0.4)."""

import unittest
from copy import deepcopy

from brineways import (
    brims, brines, clamps, draws, fits, fractions, ladders, needs, plans, rooms, spells, sun, texts, works, years,
)
from brineways.errors import (
    BrineError, NoBrine, NoDeed, NoFraction, NoGate, NoLot, NoMoment, NoPan, NoPlan, NoRoom, NoStrength, NoText, NoWater,
    NoYear, Weaker,
)
from support import layer

FULL = (1, 3)
ONE_BRINE = (layer(0, 2), layer(3, 1), layer(5, 1), layer(7, 0))
OTHER = (layer(4, 1), layer(5, 1))
ROW = ((1, 2), (-2, 3), (5, 7))
AREA = (2, 1)
WEATHER = (((2, 1), (-1, 1)), ((1, 1), (3, 2)), ((1, 2), (-4, 1)))
ASK = (FULL, AREA, ONE_BRINE, WEATHER, (1, 4))
YEAR = (WEATHER, (((1, 1), (4, 1), (1, 1)), ((7, 2), (2, 1), (0, 1))))
OF_YEAR = (FULL, AREA, ONE_BRINE, YEAR)
CLAMP = ((3, 2), (0, 1), (10, 1))
PAN = ((2, 1), (8, 1))
WORKS = (FULL, (PAN, PAN), WEATHER)
STAND = (ONE_BRINE, OTHER)
GATES = ((1, 4),)
GAINS = ((3, 1), (2, 1))
LINES = ((((1, 1), (1, 1)), (4, 1)), (((1, 1), (0, 1)), (3, 1)))
FIELD = (FULL, (1, 4), (PAN,), WEATHER[:1], ((0, (4, 1), (1, 1)),))
OF_ROOM = (FULL, PAN, WEATHER[:1], (0, (4, 1), (1, 1)), (1, 4))

CALLS = (
    (fractions.is_fraction, ((1, 2),)), (fractions.is_fraction, ([1, [2]],)), (fractions.fraction, (6, -4)),
    (fractions.plus, ROW[:2]), (fractions.less, ROW[:2]), (fractions.times, ROW[:2]), (fractions.over, ROW[:2]),
    (fractions.is_less, ROW[:2]), (fractions.least, (ROW,)), (fractions.greatest, (ROW,)),
    (fractions.summed, (ROW,)), (fractions.floor, ((-7, 2),)),
    (brines.is_layer, (FULL, layer(4, 1))), (brines.is_layer, (FULL, [[4, 1], [1, 1]])),
    (brines.is_brine, (FULL, ONE_BRINE)), (brines.is_brine, (FULL, [list(one) for one in ONE_BRINE])),
    (brines.laid, (FULL, ONE_BRINE[::-1] + OTHER)), (brines.joined, (ONE_BRINE, OTHER)),
    (brines.share_of, (ONE_BRINE, (2, 3))), (brines.water_of, (ONE_BRINE,)), (brines.salt_of, (ONE_BRINE,)),
    (brines.fallen_of, (ONE_BRINE,)), (brines.weakest, (ONE_BRINE,)), (brines.strongest, (ONE_BRINE,)),
    (brines.strengths, (ONE_BRINE,)), (brines.need, (FULL, ONE_BRINE, (1, 4))),
    (brines.alike_by_needs, (FULL, ONE_BRINE, OTHER)), (brines.alike_by_needs, (FULL, OTHER, OTHER)),
    (sun.dried, (FULL, ONE_BRINE, (9, 1))), (sun.rained, (ONE_BRINE, (9, 1))),
    (sun.dried_right, (FULL, ONE_BRINE, (9, 1), [list(ONE_BRINE), [9, 1]])),
    (sun.dried_right, (FULL, ONE_BRINE, (0, 1), (ONE_BRINE, (0, 1)))),
    (draws.drawn, (ONE_BRINE, (4, 1))), (draws.skimmed, (ONE_BRINE, (8, 1))),
    (draws.may_take, (ONE_BRINE, (4, 1), (1, 1))), (draws.bound_by, (ONE_BRINE, (4, 1), (1, 4))),
    (draws.least_bound, (FULL, ONE_BRINE, (4, 1))), (draws.stirred, (ONE_BRINE,)),
    (spells.is_weather, (WEATHER,)), (spells.is_weather, ([list(one) for one in WEATHER],)),
    (spells.days_of, (WEATHER,)), (spells.fallen_by, (AREA, WEATHER, (5, 2))),
    (spells.after, (FULL, AREA, ONE_BRINE, WEATHER, (5, 2))), (spells.strong_spans, ASK),
    (spells.shallow_spans, (AREA, ONE_BRINE, WEATHER, (12, 1))), (spells.first_strong, ASK + ((1, 2),)),
    (needs.need_at, ASK + ((1, 2),)), (needs.since, ASK + ((3, 1),)), (needs.came, ASK + ((1, 2), (3, 1))),
    (needs.best_begins, ASK + ((3, 1),)), (needs.peak, ASK + ((1, 2), (3, 1))),
    (needs.least_shown, ASK + ((3, 1), ((2, 1), (1, 1)))), (needs.most_shown, ASK + (((9, 1),) * 4,)),
    (years.is_year, (FULL, YEAR)), (years.is_year, (FULL, [list(WEATHER), []])), (years.part_after, OF_YEAR + ((5, 2),)),
    (years.year_after, OF_YEAR), (years.brings, (FULL, AREA, YEAR, (1, 4))), (years.gone, OF_YEAR + (9,)),
    (years.is_settled, OF_YEAR), (years.settles, OF_YEAR), (years.turned, (YEAR, (3, 2))),
    (clamps.clamped, (CLAMP, (9, 1))), (clamps.one_behind, (CLAMP, CLAMP)), (clamps.many_times, (CLAMP, 5)),
    (clamps.first_time, (CLAMP, (1, 1), (9, 1))), (brims.is_pan, (PAN,)), (brims.is_pan, ([[1, 1], [1, 1]],)),
    (brims.rim_of, (PAN,)), (brims.clamp_of, (PAN, WEATHER)), (brims.brimmed, (FULL, PAN, ONE_BRINE, WEATHER, (3, 1))),
    (brims.brim_spans, (PAN, ONE_BRINE, WEATHER)),
    (works.is_works, (WORKS,)), (works.is_works, ([FULL, [PAN], [WEATHER]],)), (works.is_stand, (WORKS, STAND)),
    (works.is_stand, (WORKS, [list(ONE_BRINE), list(OTHER)])), (works.is_deed, (WORKS, ("let", 0, (1, 1)))),
    (works.is_deed, (WORKS, ["let", 0, [1, 1]])), (works.done, (WORKS, STAND, ("lead", 0, 1, (1, 1), "under", True))),
    (works.done, (WORKS, STAND, ("pour", 0, (1, 1), (0, 1)))), (works.done, (WORKS, STAND, ("let", 0, (8, 1)))),
    (works.done, (WORKS, STAND, ("rake", 0))), (works.done, (WORKS, STAND, ("stir", 0))),
    (works.passed, (WORKS, STAND, (1, 2), (3, 1))), (ladders.is_gates, (WORKS, GATES)), (ladders.is_gates, (WORKS, [[1, 4]])),
    (ladders.openings, (WORKS, GATES, (OTHER, ()), (7, 2))), (ladders.run_to, (WORKS, GATES, (OTHER, ()), (7, 2))),
    (rooms.room, OF_ROOM), (rooms.room_by, OF_ROOM + (("rim", 0, 1),)), (rooms.does_hold, OF_ROOM + ((3, 2),)),
    (fits.best_fit, (GAINS, LINES)), (fits.fit_worth, (GAINS, LINES, ((3, 1), (1, 1)))),
    (fits.fit_worth, (GAINS, LINES, ((9, 1), (1, 1)))), (fits.prices_bound, (GAINS, LINES, ((2, 1), (1, 1)))),
    (plans.is_field, (FIELD,)), (plans.is_field, (list(FIELD),)), (plans.lines_of, (FIELD,)), (plans.best_plan, (FIELD,)),
    (plans.plan_salt, (FIELD, ((1, 2),))), (plans.prices_salt, (FIELD, ((9, 1),) * 5)), (texts.fraction_text, ((-1, 2),)),
    (texts.brine_text, (ONE_BRINE,)), (texts.read_fraction, ("-1/2",)), (texts.read_brine, (FULL, "0:2 3:1 7:0")),
)
REFUSED = (
    (NoFraction, fractions.fraction, (1, 0)), (NoFraction, fractions.over, ((1, 2), (0, 1))),
    (NoBrine, brines.laid, (FULL, (layer(5, 1), [[4, 1], [1, 1]]))),
    (NoFraction, brines.share_of, (ONE_BRINE, (3, 2))), (NoStrength, brines.need, (FULL, ONE_BRINE, (1, 2))),
    (NoWater, sun.dried, (FULL, ONE_BRINE, (-1, 2))), (NoWater, sun.rained, (ONE_BRINE, (-1, 2))),
    (NoWater, sun.dried_right, (FULL, ONE_BRINE, (-1, 2), [ONE_BRINE, [1]])),
    (NoWater, draws.drawn, (ONE_BRINE, (16, 1))), (NoWater, draws.skimmed, (ONE_BRINE, (16, 1))),
    (NoWater, draws.bound_by, (ONE_BRINE, (16, 1), (-1, 1))), (NoStrength, draws.bound_by, (ONE_BRINE, (4, 1), (-1, 1))),
    (NoWater, draws.least_bound, (FULL, ONE_BRINE, (16, 1))), (NoMoment, spells.fallen_by, (AREA, WEATHER, (4, 1))),
    (NoMoment, spells.after, (FULL, AREA, ONE_BRINE, WEATHER, (4, 1))), (NoStrength, spells.strong_spans, ASK[:4] + ((1, 2),)),
    (NoWater, spells.shallow_spans, (AREA, ONE_BRINE, WEATHER, (-1, 1))),
    (NoStrength, spells.first_strong, ASK[:4] + ((1, 2), (4, 1))), (NoMoment, spells.first_strong, ASK + ((4, 1),)),
    (NoStrength, needs.need_at, ASK[:4] + ((1, 2), (4, 1))), (NoMoment, needs.since, ASK + ((4, 1),)),
    (NoMoment, needs.came, ASK + ((2, 1), (1, 1))), (NoMoment, needs.peak, ASK + ((2, 1), (1, 1))),
    (NoMoment, needs.best_begins, ASK + ((4, 1),)), (NoMoment, needs.least_shown, ASK + ((4, 1), ((0, 1), (0, 1)))),
    (NoStrength, needs.most_shown, ASK[:4] + ((1, 2), ((9, 1),) * 4)),
    (NoMoment, years.part_after, OF_YEAR + ((4, 1),)), (NoStrength, years.brings, (FULL, AREA, YEAR, (1, 2))),
    (NoYear, years.gone, OF_YEAR + ([1],)), (NoMoment, years.turned, (YEAR, (0, 1))),
    (NoYear, clamps.many_times, (CLAMP, [1])), (NoRoom, brims.brimmed, (FULL, (AREA, (1, 1)), ONE_BRINE, WEATHER, (9, 1))),
    (NoMoment, brims.brimmed, (FULL, PAN, ONE_BRINE, WEATHER, (9, 1))),
    (NoRoom, brims.brim_spans, ((AREA, (1, 1)), ONE_BRINE, WEATHER)),
    (NoDeed, works.done, (WORKS, STAND, ["let", 0, [1, 1]])), (NoPan, works.done, (WORKS, STAND, ("rake", 2))),
    (NoWater, works.done, (WORKS, STAND, ("let", 1, (99, 1)))), (NoRoom, works.done, (WORKS, STAND, ("pour", 0, (9, 1), (0, 1)))),
    (Weaker, works.done, (WORKS, STAND, ("lead", 0, 1, (1, 1), "over", False))),
    (NoMoment, works.passed, (WORKS, STAND, (3, 1), (1, 2))), (NoGate, ladders.openings, (WORKS, [[1, 4]], STAND, (9, 1))),
    (NoMoment, ladders.run_to, (WORKS, GATES, STAND, (9, 1))), (NoLot, rooms.room, OF_ROOM[:3] + ([1], (9, 1))),
    (NoStrength, rooms.does_hold, OF_ROOM[:4] + ((9, 1), (1, 1))), (NoPlan, fits.best_fit, (GAINS, LINES[1:])),
    (NoPlan, plans.best_plan, (list(FIELD),)), (NoText, texts.read_fraction, ("1/1",)), (NoText, texts.read_brine, (FULL, "3:1 3:1")),
)


class Unchanged(unittest.TestCase):
    def test_each_call_twice(self):
        for function, handed in CALLS:
            kept = deepcopy(handed)
            told = function(*handed)
            self.assertEqual(handed, kept, function.__name__)
            self.assertEqual(function(*handed), told, function.__name__)
            self.assertIs(type(function(*handed)), type(told), function.__name__)

    def test_refused_twice(self):
        for refusal, function, handed in REFUSED:
            kept = deepcopy(handed)
            for _ in range(2):
                with self.assertRaises(BrineError) as caught:
                    function(*handed)
                self.assertIs(type(caught.exception), refusal, function.__name__)
                self.assertEqual(handed, kept, function.__name__)

    def test_told_alike_behind_a_refusal(self):
        before = [function(*handed) for function, handed in CALLS]
        for _, function, handed in REFUSED:
            with self.assertRaises(BrineError):
                function(*handed)
        self.assertEqual([function(*handed) for function, handed in CALLS], before)


if __name__ == "__main__":
    unittest.main()
