"""Fractions (1.1, 1.2, and 0.5 for their order)."""

import unittest
from fractions import Fraction
from math import floor as other_floor

from brineways.errors import NoFraction
from brineways.fractions import (
    floor, fraction, greatest, is_fraction, is_less, least, less, over, plus, rising, summed, times,
)
from support import HALF, NOUGHT, ONE, STRANGE, check_fraction, great, pair, rng_of, small, worth


def rows(seed, many):
    """Pairs of fractions: small ones, great ones, and mixed."""
    rng = rng_of(seed)
    for _ in range(many):
        yield small(rng), small(rng)
        yield great(rng), small(rng)
        yield small(rng, -9, 9, 6), small(rng, -9, 9, 6)
        yield great(rng), great(rng)


class IsFraction(unittest.TestCase):
    def test_good_ones(self):
        for thing in ((0, 1), (1, 1), (-1, 1), (1, 2), (-3, 1000), (10 ** 6, 999), (7, 10 ** 80),
                      (-10 ** 80, 7), (10 ** 5000 + 1, 10)):
            self.assertIs(is_fraction(thing), True)

    def test_not_in_lowest_terms(self):
        for thing in ((2, 4), (-2, 4), (0, 2), (0, 1000), (6, 3), (10 ** 50, 10), (91, 39)):
            self.assertIs(is_fraction(thing), False, thing)

    def test_bottom_nought_or_below(self):
        for thing in ((1, 0), (0, 0), (1, -2), (-1, -2), (0, -1), (-1, 0)):
            self.assertIs(is_fraction(thing), False, thing)

    def test_truths_are_no_whole_numbers(self):
        for thing in ((True, 2), (False, 1), (1, True), (0, True), (True, True), (False, True)):
            self.assertIs(is_fraction(thing), False, thing)

    def test_anything_else(self):
        for thing in STRANGE + ([0, 1], ((1, 2), (3, 4)), ((1, 2),), (1, (2,)), ("1", 2), (1, "2"),
                                (1, None), (None, 1), (b"1", 2), ([1], 2), (), (1, 2, 1), Fraction(1, 2)):
            self.assertIs(is_fraction(thing), False, thing)


class Made(unittest.TestCase):
    def test_lowest_terms_and_signs(self):
        for a, b, told in ((6, 4, (3, 2)), (-6, 4, (-3, 2)), (6, -4, (-3, 2)), (-6, -4, (3, 2)),
                           (0, 5, (0, 1)), (0, -5, (0, 1)), (5, 5, (1, 1)), (5, -1, (-5, 1)), (7, 1, (7, 1)),
                           (3, 9, (1, 3)), (1, -10 ** 40, (-1, 10 ** 40))):
            self.assertEqual(fraction(a, b), told)
            check_fraction(self, fraction(a, b))

    def test_of_many_pairs(self):
        for a in range(-12, 13):
            for b in range(-12, 13):
                if b != 0:
                    self.assertEqual(fraction(a, b), pair(Fraction(a, b)))

    def test_great_ones(self):
        rng = rng_of(1)
        for _ in range(100):
            a, b, by = (rng.randint(-10 ** 90, 10 ** 90) for _ in range(3))
            self.assertEqual(fraction(a * by, b * by), pair(Fraction(a, b)))
        self.assertEqual(fraction(6 * 10 ** 4500, -4 * 10 ** 4500), (-3, 2))

    def test_of_nought_beneath(self):
        for a in (0, 1, -1, 10 ** 30):
            with self.assertRaises(NoFraction):
                fraction(a, 0)


class Reckoned(unittest.TestCase):
    def test_by_hand(self):
        self.assertEqual(plus((1, 6), (1, 3)), (1, 2))
        self.assertEqual(plus((1, 2), (-1, 2)), (0, 1))
        self.assertEqual(less((1, 6), (1, 3)), (-1, 6))
        self.assertEqual(less((3, 4), (3, 4)), (0, 1))
        self.assertEqual(times((2, 3), (3, 2)), (1, 1))
        self.assertEqual(times((0, 1), (-7, 3)), (0, 1))
        self.assertEqual(over((2, 3), (-4, 3)), (-1, 2))
        self.assertEqual(over((0, 1), (-4, 3)), (0, 1))

    def test_by_their_worth(self):
        for one, other in rows(2, 150):
            for told, right in (
                (plus(one, other), worth(one) + worth(other)),
                (less(one, other), worth(one) - worth(other)),
                (times(one, other), worth(one) * worth(other)),
            ):
                self.assertEqual(told, pair(right))
                check_fraction(self, told)
            if other != NOUGHT:
                told = over(one, other)
                self.assertEqual(told, pair(worth(one) / worth(other)))
                check_fraction(self, told)

    def test_with_nought_and_one(self):
        for one, _ in rows(3, 20):
            self.assertEqual(plus(one, NOUGHT), one)
            self.assertEqual(less(one, one), NOUGHT)
            self.assertEqual(times(one, ONE), one)
            self.assertEqual(times(one, NOUGHT), NOUGHT)
            self.assertEqual(over(one, ONE), one)
            self.assertEqual(over(one, (-1, 1)), less(NOUGHT, one))

    def test_over_nought(self):
        for one in (NOUGHT, ONE, (-5, 3), (10 ** 40, 7)):
            with self.assertRaises(NoFraction):
                over(one, NOUGHT)

    def test_told_ones_are_handed_in_again(self):
        total = ONE
        for k in range(1, 120):
            total = plus(times(total, (k, k + 1)), fraction(k, 997))
        other = Fraction(1)
        for k in range(1, 120):
            other = other * Fraction(k, k + 1) + Fraction(k, 997)
        self.assertEqual(total, pair(other))


class Compared(unittest.TestCase):
    def test_by_worth_and_not_as_pairs(self):
        self.assertIs(is_less((1, 2), (2, 3)), True)
        self.assertIs(is_less((2, 3), (1, 2)), False)
        self.assertIs(is_less((3, 5), (1, 1)), True)
        self.assertIs(is_less((1, 3), (1, 2)), True)
        self.assertIs(is_less((-1, 2), (-1, 3)), True)
        self.assertIs(is_less((-1, 3), (-1, 2)), False)
        self.assertIs(is_less((1, 2), (1, 2)), False)

    def test_many(self):
        for one, other in rows(4, 150):
            self.assertIs(is_less(one, other), worth(one) < worth(other))
            self.assertIs(is_less(one, one), False)

    def test_great_ones_that_hardly_differ(self):
        one = (10 ** 70, 10 ** 70 + 1)
        other = (10 ** 70 + 1, 10 ** 70 + 2)
        self.assertIs(is_less(one, other), True)
        self.assertIs(is_less(other, one), False)


class OfRows(unittest.TestCase):
    def test_one_part(self):
        for one in (NOUGHT, (-7, 3), (10 ** 40, 3)):
            self.assertEqual(least((one,)), one)
            self.assertEqual(greatest((one,)), one)
            self.assertEqual(summed((one,)), one)

    def test_sum_of_none(self):
        self.assertEqual(summed(()), (0, 1))

    def test_by_hand(self):
        row = ((1, 2), (2, 5), (-3, 7), (2, 5), (-1, 2))
        self.assertEqual(least(row), (-1, 2))
        self.assertEqual(greatest(row), (1, 2))
        self.assertEqual(summed(row), (13, 35))
        self.assertEqual(greatest(((1, 2), (2, 3))), (2, 3))
        self.assertEqual(greatest(((2, 3), (1, 1))), (1, 1))
        self.assertEqual(least(((1, 1), (2, 3))), (2, 3))

    def test_one_part_to_many(self):
        rng = rng_of(5)
        for many in list(range(1, 20)) + [57, 399, 400]:
            row = tuple(small(rng) for _ in range(many))
            worths = [worth(one) for one in row]
            self.assertEqual(least(row), pair(min(worths)))
            self.assertEqual(greatest(row), pair(max(worths)))
            self.assertEqual(summed(row), pair(sum(worths)))
            self.assertEqual(rising(row), tuple(pair(one) for one in sorted(worths)))
            check_fraction(self, summed(row))

    def test_great_parts(self):
        rng = rng_of(6)
        row = tuple(great(rng) for _ in range(40))
        worths = [worth(one) for one in row]
        self.assertEqual(least(row), pair(min(worths)))
        self.assertEqual(greatest(row), pair(max(worths)))
        self.assertEqual(summed(row), pair(sum(worths)))

    def test_rising_keeps_equal_ones(self):
        self.assertEqual(rising(()), ())
        self.assertEqual(rising((HALF, ONE, HALF)), (HALF, HALF, ONE))


class Floors(unittest.TestCase):
    def test_by_hand(self):
        for one, told in (((7, 2), 3), ((-7, 2), -4), ((4, 1), 4), ((-4, 1), -4), ((0, 1), 0),
                          ((1, 1000), 0), ((-1, 1000), -1), ((999, 1000), 0)):
            self.assertEqual(floor(one), told)
            self.assertIs(type(floor(one)), int)

    def test_many(self):
        for one, other in rows(7, 60):
            self.assertEqual(floor(one), other_floor(worth(one)))
            self.assertEqual(floor(other), other_floor(worth(other)))


if __name__ == "__main__":
    unittest.main()
