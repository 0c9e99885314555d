"""Clamps (8.1)."""

import unittest
from fractions import Fraction
from math import ceil

from brineways.clamps import clamped, first_time, many_times, one_behind
from brineways.errors import NoYear
from support import HALF, NOUGHT, ONE, STRANGE, check_fraction, great, pair, rng_of, small, worth

UP = ((3, 2), NOUGHT, (10, 1))
DOWN = ((-3, 2), NOUGHT, (10, 1))
STILL = (NOUGHT, NOUGHT, (10, 1))
MOST = 10 ** 12
NEAR = Fraction(1, 10 ** 9)


def clamped_otherwise(clamp, x):
    by, low, high = (worth(one) for one in clamp)
    return pair(min(high, max(low, worth(x) + by)))


def some_clamp(rng):
    low, high = sorted(Fraction(rng.randint(-30, 30), rng.randint(1, 4)) for _ in range(2))
    high = low if rng.randrange(8) == 0 else high
    by = rng.choice((Fraction(rng.randint(-20, 20), rng.randint(1, 4)), Fraction(0), Fraction(1, 50), Fraction(-1, 50)))
    return (pair(by), pair(low), pair(high))


def some_x(rng, clamp):
    """A fraction within the clamp, beside its ends, or away from it."""
    by, low, high = (worth(one) for one in clamp)
    return pair(rng.choice((low, high, low - by, high - by, low - NEAR, high + NEAR, low - by + NEAR, high - by - NEAR,
                            (low + high) / 2, low - 50, high + 50, Fraction(rng.randint(-40, 40), 3))))


def check_clamp(case, clamp):
    case.assertIs(type(clamp), tuple)
    case.assertEqual(len(clamp), 3)
    for one in clamp:
        check_fraction(case, one)
    case.assertLessEqual(worth(clamp[1]), worth(clamp[2]))


class Clamped(unittest.TestCase):
    def test_at_and_beside_the_ends(self):
        for x, told in (("-100", 0), ("-5/2", 0), ("-3/2", 0), ("-1499/1000", "1/1000"), ("0", "3/2"), ("17/2", 10),
                        ("8499/1000", "9999/1000"), ("8501/1000", 10), ("10", 10), ("100", 10)):
            self.assertEqual(clamped(UP, pair(x)), pair(told))
        for x, told in (("-1", 0), ("0", 0), ("3/2", 0), ("1501/1000", "1/1000"), ("10", "17/2"), ("23/2", 10),
                        ("11499/1000", "9999/1000"), ("100", 10)):
            self.assertEqual(clamped(DOWN, pair(x)), pair(told))
        for x, told in (("-1", 0), ("0", 0), ("5", 5), ("10", 10), ("11", 10)):
            self.assertEqual(clamped(STILL, pair(x)), pair(told))

    def test_low_is_high(self):
        for x in ((-9, 1), NOUGHT, HALF, ONE, (9, 1)):
            self.assertEqual(clamped(((3, 1), HALF, HALF), x), HALF)

    def test_many(self):
        rng = rng_of(111)
        for _ in range(400):
            clamp = some_clamp(rng)
            x = some_x(rng, clamp)
            self.assertEqual(clamped(clamp, x), clamped_otherwise(clamp, x))
            check_fraction(self, clamped(clamp, x))
        for _ in range(50):
            low, high = sorted((small(rng), great(rng)), key=worth)
            clamp, x = (small(rng), low, high), great(rng)
            self.assertEqual(clamped(clamp, x), clamped_otherwise(clamp, x))


class OneBehind(unittest.TestCase):
    def test_by_hand(self):
        self.assertEqual(one_behind(UP, DOWN), (NOUGHT, NOUGHT, (17, 2)))
        self.assertEqual(one_behind(DOWN, UP), (NOUGHT, (3, 2), (10, 1)))
        self.assertEqual(one_behind(UP, UP), ((3, 1), (3, 2), (10, 1)))
        self.assertEqual(one_behind(STILL, UP), ((3, 2), (3, 2), (10, 1)))
        self.assertEqual(one_behind((ONE, NOUGHT, ONE), (ONE, (5, 1), (6, 1))), ((2, 1), (5, 1), (5, 1)))

    def test_of_two(self):
        rng = rng_of(112)
        for _ in range(300):
            first, second = some_clamp(rng), some_clamp(rng)
            told = one_behind(first, second)
            check_clamp(self, told)
            by = worth(first[0]) + worth(second[0])
            self.assertEqual(told, (pair(by), clamped_otherwise(second, first[1]), clamped_otherwise(second, first[2])))
            for x in [some_x(rng, first) for _ in range(4)] + [some_x(rng, told) for _ in range(4)]:
                self.assertEqual(clamped(told, x), clamped_otherwise(second, clamped_otherwise(first, x)))

    def test_of_three_whichever_two_go_together_first(self):
        rng = rng_of(113)
        for _ in range(200):
            one, other, third = (some_clamp(rng) for _ in range(3))
            self.assertEqual(one_behind(one_behind(one, other), third), one_behind(one, one_behind(other, third)))


class ManyTimes(unittest.TestCase):
    def test_once(self):
        rng = rng_of(114)
        for clamp in (UP, DOWN, STILL) + tuple(some_clamp(rng) for _ in range(40)):
            self.assertEqual(many_times(clamp, 1), clamp)

    def test_by_hand(self):
        self.assertEqual(many_times(UP, 3), ((9, 2), (3, 1), (10, 1)))
        self.assertEqual(many_times(UP, 8), ((12, 1), (10, 1), (10, 1)))
        self.assertEqual(many_times(DOWN, 3), ((-9, 2), NOUGHT, (7, 1)))
        self.assertEqual(many_times(UP, MOST), (pair(Fraction(3 * MOST, 2)), (10, 1), (10, 1)))
        self.assertEqual(many_times(DOWN, MOST), (pair(Fraction(-3 * MOST, 2)), NOUGHT, NOUGHT))
        self.assertEqual(many_times(STILL, MOST), STILL)
        self.assertEqual(many_times(((1, 10 ** 6), NOUGHT, (10 ** 6, 1)), MOST),
                         ((10 ** 6, 1), pair(10 ** 6 - Fraction(1, 10 ** 6)), (10 ** 6, 1)))

    def test_few_as_one_behind_another(self):
        rng = rng_of(115)
        for _ in range(100):
            clamp = some_clamp(rng)
            now = clamp
            for many in range(2, 12):
                now = one_behind(now, clamp)
                self.assertEqual(many_times(clamp, many), now)
                check_clamp(self, now)

    def test_very_many_in_two_steps(self):
        rng = rng_of(116)
        for _ in range(100):
            clamp = some_clamp(rng)
            one, other = rng.randint(1, 10 ** 11), rng.choice((1, 5, 10 ** 6, 9 * 10 ** 11))
            self.assertEqual(one_behind(many_times(clamp, one), many_times(clamp, other)), many_times(clamp, one + other))

    def test_no_year(self):
        for many in STRANGE + (0, -1, -MOST, MOST + 1, 10 ** 30, "1", (1, 1), [1], True, False, b"1"):
            if many != 1 or isinstance(many, bool):
                with self.assertRaises(NoYear):
                    many_times(UP, many)
        check_clamp(self, many_times(UP, MOST))


class FirstTime(unittest.TestCase):
    def test_by_hand(self):
        for clamp, x, goal, told in (
            (UP, "0", "0", 0), (UP, "0", "-5", 0), (UP, "20", "15", 0), (DOWN, "5", "5", 0),
            (UP, "0", "1/1000", 1), (UP, "0", "3/2", 1), (UP, "0", "1501/1000", 2), (UP, "0", "3", 2), (UP, "1", "10", 6),
            (UP, "-100", "0", 1), (UP, "-100", "3/2", 2), (UP, "-100", "10", 8), (DOWN, "-100", "0", 1),
            (DOWN, "-100", "1/1000", None), (DOWN, "5", "5001/1000", None), (STILL, "5", "6", None), (STILL, "-5", "0", 1),
            (UP, "0", "10001/1000", None), (UP, "20", "21", None), (STILL, "20", "20", 0),
        ):
            self.assertEqual(first_time(clamp, pair(x), pair(goal)), told, (clamp, x, goal))

    def test_more_times_than_any_clamp_is_told_for(self):
        clamp = ((1, 1000), (-10 ** 6, 1), (10 ** 20, 1))
        self.assertEqual(first_time(clamp, NOUGHT, (10 ** 20, 1)), 10 ** 23)
        self.assertEqual(first_time(clamp, (-10 ** 30, 1), (10 ** 20, 1)), 10 ** 23 + 10 ** 9 + 1)

    def test_many(self):
        rng = rng_of(117)
        seen = {"0": 0, "1": 0, "many": 0, "None": 0}
        for _ in range(600):
            clamp = some_clamp(rng)
            x, goal = some_x(rng, clamp), some_x(rng, clamp)
            told = first_time(clamp, x, goal)
            now, many = x, 0
            limit = 4 + ceil(200 / worth(clamp[0])) if worth(clamp[0]) > 0 else 4
            while many <= limit and worth(now) < worth(goal):
                now, many = clamped_otherwise(clamp, now), many + 1
            self.assertEqual(told, many if many <= limit else None)
            if told is not None:
                self.assertIs(type(told), int)
            seen["many" if told not in (None, 0, 1) else str(told)] += 1
        self.assertGreater(min(seen.values()), 20, seen)


if __name__ == "__main__":
    unittest.main()
