"""Nothing handed in is changed, and the same asked again is told alike (0.2, 0.4)."""

import unittest
from copy import deepcopy

from brineways import brines, fractions
from brineways.errors import BrineError, NoBrine, NoFraction, NoStrength
from support import layer

FULL = (1, 3)
ONE_BRINE = (layer(0, 2), layer(3, 1), layer(5, 1), layer(7, 0))
OTHER = (layer(4, 1), layer(5, 1))
ROW = ((1, 2), (-2, 3), (5, 7))

CALLS = (
    (fractions.is_fraction, ((1, 2),)), (fractions.is_fraction, ([1, [2]],)), (fractions.fraction, (6, -4)),
    (fractions.plus, ROW[:2]), (fractions.less, ROW[:2]), (fractions.times, ROW[:2]), (fractions.over, ROW[:2]),
    (fractions.is_less, ROW[:2]), (fractions.least, (ROW,)), (fractions.greatest, (ROW,)),
    (fractions.summed, (ROW,)), (fractions.floor, ((-7, 2),)),
    (brines.is_layer, (FULL, layer(4, 1))), (brines.is_layer, (FULL, [[4, 1], [1, 1]])),
    (brines.is_brine, (FULL, ONE_BRINE)), (brines.is_brine, (FULL, [list(one) for one in ONE_BRINE])),
    (brines.laid, (FULL, ONE_BRINE[::-1] + OTHER)), (brines.joined, (ONE_BRINE, OTHER)),
    (brines.share_of, (ONE_BRINE, (2, 3))), (brines.water_of, (ONE_BRINE,)), (brines.salt_of, (ONE_BRINE,)),
    (brines.fallen_of, (ONE_BRINE,)), (brines.weakest, (ONE_BRINE,)), (brines.strongest, (ONE_BRINE,)),
    (brines.strengths, (ONE_BRINE,)), (brines.need, (FULL, ONE_BRINE, (1, 4))),
    (brines.alike_by_needs, (FULL, ONE_BRINE, OTHER)), (brines.alike_by_needs, (FULL, OTHER, OTHER)),
)
REFUSED = (
    (NoFraction, fractions.fraction, (1, 0)), (NoFraction, fractions.over, ((1, 2), (0, 1))),
    (NoBrine, brines.laid, (FULL, (layer(5, 1), [[4, 1], [1, 1]]))),
    (NoFraction, brines.share_of, (ONE_BRINE, (3, 2))), (NoStrength, brines.need, (FULL, ONE_BRINE, (1, 2))),
)


class Unchanged(unittest.TestCase):
    def test_each_call_twice(self):
        for function, handed in CALLS:
            kept = deepcopy(handed)
            told = function(*handed)
            self.assertEqual(handed, kept, function.__name__)
            self.assertEqual(function(*handed), told, function.__name__)
            self.assertIs(type(function(*handed)), type(told), function.__name__)

    def test_refused_twice(self):
        for refusal, function, handed in REFUSED:
            kept = deepcopy(handed)
            for _ in range(2):
                with self.assertRaises(BrineError) as caught:
                    function(*handed)
                self.assertIs(type(caught.exception), refusal, function.__name__)
                self.assertEqual(handed, kept, function.__name__)

    def test_told_alike_behind_a_refusal(self):
        before = [function(*handed) for function, handed in CALLS]
        for _, function, handed in REFUSED:
            with self.assertRaises(BrineError):
                function(*handed)
        self.assertEqual([function(*handed) for function, handed in CALLS], before)


if __name__ == "__main__":
    unittest.main()
