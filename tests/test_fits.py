"""Fits and prices under lines (13.1)."""

import unittest
from fractions import Fraction
from itertools import combinations

from brineways.errors import BrineError, NoPlan
from brineways.fits import best_fit, fit_worth, prices_bound
from support import HALF, NOUGHT, ONE, check_fraction, pair, rng_of, small, worth

TWO, THREE = (2, 1), (3, 1)
GAINS = (THREE, TWO)
# x + y <= 4, x + 3y <= 6, x <= 3: best is 3, 1 with 11.
LINES = (((ONE, ONE), (4, 1)), ((ONE, THREE), (6, 1)), ((ONE, NOUGHT), THREE))
HAIR = Fraction(1, 10 ** 12)


def worth_otherwise(gains, lines, row):
    """The worth of a fit, or None."""
    if len(row) != len(gains) or any(worth(one) < 0 for one in row):
        return None
    for numbers, bound in lines:
        if sum(worth(number) * worth(one) for number, one in zip(numbers, row)) > worth(bound):
            return None
    return pair(sum(worth(gain) * worth(one) for gain, one in zip(gains, row)))


def bound_otherwise(gains, lines, row):
    """The sum of bounds times prices, or None."""
    if len(row) != len(lines) or any(worth(one) < 0 for one in row):
        return None
    for place, gain in enumerate(gains):
        if sum(worth(line[0][place]) * worth(price) for line, price in zip(lines, row)) < worth(gain):
            return None
    return pair(sum(worth(line[1]) * worth(price) for line, price in zip(lines, row)))


def amount(rng, kind):
    """A fraction from 0 on: small, a few figures, or one of very few, often alike."""
    if kind == 0:
        return small(rng, 0)
    return pair(Fraction(rng.randint(0, 12), rng.randint(1, 6))) if kind == 1 else pair(rng.randint(0, 2))


def some_fit(rng, most_gains=8, most_lines=40):
    places, many, kind = rng.randint(0, most_gains), rng.randint(0, most_lines), rng.randrange(3)
    thin = rng.choice((0, 2, 4))
    gains = tuple(amount(rng, kind) for _ in range(places))
    lines = []
    for _ in range(many):
        numbers = tuple(NOUGHT if rng.randrange(5) < thin else amount(rng, kind) for _ in range(places))
        lines.append((numbers, NOUGHT if rng.randrange(30) == 0 else pair(worth(amount(rng, kind)) + rng.randint(0, 3))))
        if rng.randrange(6) == 0:
            lines.append(lines[-1])
    return gains, tuple(lines[:40])


def is_bounded(gains, lines):
    return all(gain == NOUGHT or any(line[0][place] != NOUGHT for line in lines) for place, gain in enumerate(gains))


def solved(rows):
    """The one solution of as many equations as unknowns, or None."""
    rows = [list(row) for row in rows]
    for at in range(len(rows)):
        pivot = next((k for k in range(at, len(rows)) if rows[k][at] != 0), None)
        if pivot is None:
            return None
        rows[at], rows[pivot] = rows[pivot], rows[at]
        rows[at] = [one / rows[at][at] for one in rows[at]]
        for k in range(len(rows)):
            if k != at:
                rows[k] = [one - rows[k][at] * other for one, other in zip(rows[k], rows[at])]
    return [row[-1] for row in rows]


def best_otherwise(gains, lines):
    """The most worth of all corners."""
    places = len(gains)
    edges = [[worth(one) for one in numbers] + [worth(bound)] for numbers, bound in lines]
    edges += [[Fraction(int(k == place)) for k in range(places)] + [Fraction(0)] for place in range(places)]
    best = Fraction(0)
    for chosen in combinations(edges, places):
        corner = solved(chosen)
        if corner is not None:
            told = worth_otherwise(gains, lines, tuple(pair(one) for one in corner))
            best = max(best, worth(told)) if told is not None else best
    return pair(best)


class BestFit(unittest.TestCase):
    def check(self, gains, lines):
        told = best_fit(gains, lines)
        self.assertEqual((type(told), len(told)), (tuple, 3))
        most, fit, prices = told
        self.assertEqual((type(fit), len(fit), type(prices), len(prices)), (tuple, len(gains), tuple, len(lines)))
        for one in (most,) + fit + prices:
            check_fraction(self, one)
        self.assertEqual(worth_otherwise(gains, lines, fit), most)
        self.assertEqual(bound_otherwise(gains, lines, prices), most)
        self.assertEqual(fit_worth(gains, lines, fit), most)
        self.assertEqual(prices_bound(gains, lines, prices), most)
        return told

    def test_by_hand(self):
        self.assertEqual(self.check(GAINS, LINES), ((11, 1), (THREE, ONE), (TWO, NOUGHT, ONE)))
        self.assertEqual(self.check((ONE,), (((TWO,), THREE),)), ((3, 2), ((3, 2),), (HALF,)))

    def test_of_none(self):
        self.assertEqual(self.check((), ()), (NOUGHT, (), ()))
        for many in (1, 7, 40):
            self.assertEqual(self.check((), (((), ONE),) * many)[:2], (NOUGHT, ()))
        for many in range(1, 9):
            self.assertEqual(self.check((NOUGHT,) * many, ())[0], NOUGHT)

    def test_bounds_of_nought(self):
        self.assertEqual(self.check(GAINS, LINES + (((ONE, ONE), NOUGHT),))[:2], (NOUGHT, (NOUGHT, NOUGHT)))
        self.assertEqual(self.check(GAINS, LINES + (((ONE, NOUGHT), NOUGHT),))[:2], ((4, 1), (NOUGHT, TWO)))
        self.assertEqual(self.check(GAINS, (((ONE, ONE), NOUGHT),) * 40)[0], NOUGHT)

    def test_many_alike(self):
        self.assertEqual(self.check((ONE,) * 8, (((ONE,) * 8, ONE),) * 40)[0], ONE)
        self.assertEqual(self.check((TWO,) * 8, tuple(((ONE,) * 8, (k % 3 + 1, 1)) for k in range(40)))[0], TWO)
        each = tuple((tuple(ONE if k == place else NOUGHT for k in range(8)), (place + 1, 1)) for place in range(8))
        self.assertEqual(self.check((ONE,) * 8, each * 5)[0], (36, 1))

    def test_where_the_search_could_go_round(self):
        # Degenerate: many lines meet at nought (none of the numbers is below it).
        lines = (((HALF, (11, 2), (5, 2), (9, 1)), NOUGHT), ((HALF, (3, 2), HALF, ONE), NOUGHT), ((ONE, NOUGHT, NOUGHT, NOUGHT), ONE))
        self.assertEqual(self.check(((10, 1), (57, 1), (9, 1), (24, 1)), lines)[0], NOUGHT)
        loose = tuple((line[0], pair(worth(line[1]) + k % 2)) for k, line in enumerate(lines * 13))
        self.check(((10, 1), (57, 1), (9, 1), (24, 1)), loose)

    def test_no_plan(self):
        for gains, lines in (
            ((ONE,), ()), ((ONE,), (((NOUGHT,), ONE),)), ((NOUGHT, ONE), (((ONE, NOUGHT), ONE),)), ((ONE, (1, 1000)), LINES[2:]),
            ((ONE,), (((NOUGHT,), NOUGHT),)), ((ONE,) * 8, (((NOUGHT,) + (ONE,) * 7, NOUGHT),) * 40),
            ((NOUGHT,) * 7 + (ONE,), (((ONE,) * 7 + (NOUGHT,), ONE),)),
        ):
            for _ in range(2):
                with self.assertRaises(BrineError) as caught:
                    best_fit(gains, lines)
                self.assertIs(type(caught.exception), NoPlan)

    def test_a_place_in_no_line_with_a_gain_of_nought(self):
        self.assertEqual(self.check((NOUGHT, ONE), (((NOUGHT, ONE), ONE),))[0], ONE)
        self.assertEqual(self.check((NOUGHT,), (((NOUGHT,), NOUGHT),))[0], NOUGHT)
        self.assertEqual(self.check((NOUGHT,) * 8, (((NOUGHT,) * 8, ONE),) * 3)[0], NOUGHT)

    def test_many(self):
        rng = rng_of(401)
        met = {True: 0, False: 0}
        for _ in range(250):
            gains, lines = some_fit(rng)
            met[is_bounded(gains, lines)] += 1
            if is_bounded(gains, lines):
                self.check(gains, lines)
                self.assertEqual(best_fit(gains, lines), best_fit(gains, lines))
            else:
                with self.assertRaises(NoPlan):
                    best_fit(gains, lines)
        self.assertGreater(min(met.values()), 15, met)

    def test_by_all_corners(self):
        rng = rng_of(402)
        for _ in range(60):
            gains, lines = some_fit(rng, 3, 6)
            if is_bounded(gains, lines):
                self.assertEqual(self.check(gains, lines)[0], best_otherwise(gains, lines))

    def test_the_most_of_all(self):
        rng = rng_of(403)
        for _ in range(10):
            gains = tuple(small(rng, 1) for _ in range(8))
            lines = tuple((tuple(small(rng, 0) for _ in range(8)), small(rng, 5 * 10 ** 5, most=1)) for _ in range(40))
            self.check(gains, lines)


class Judges(unittest.TestCase):
    def test_right_fits(self):
        for row, told in (((THREE, ONE), (11, 1)), ((NOUGHT, NOUGHT), NOUGHT), ((ONE, ONE), (5, 1)), ((NOUGHT, TWO), (4, 1)),
                          ((THREE, NOUGHT), (9, 1)), (((5, 2), (7, 6)), (59, 6))):
            self.assertEqual(fit_worth(GAINS, LINES, row), told)

    def test_fits_broken_by_a_hair(self):
        for row in ((pair(3 + HAIR), NOUGHT), (THREE, pair(1 + HAIR)), (NOUGHT, pair(2 + HAIR)), (pair(-HAIR), ONE), (ONE, pair(-HAIR)),
                    ((-1, 1), NOUGHT), (NOUGHT, (-1, 1000))):
            self.assertIs(fit_worth(GAINS, LINES, row), None, row)

    def test_right_prices(self):
        for row, told in (((TWO, NOUGHT, ONE), (11, 1)), ((THREE, NOUGHT, NOUGHT), (12, 1)), ((NOUGHT, THREE, NOUGHT), (18, 1)),
                          ((NOUGHT, (2, 3), (7, 3)), (11, 1)), (((9, 1),) * 3, (117, 1))):
            self.assertEqual(prices_bound(GAINS, LINES, row), told, row)

    def test_prices_broken_by_a_hair(self):
        for row in ((pair(2 - HAIR), NOUGHT, TWO), (TWO, NOUGHT, pair(1 - HAIR)), ((9, 1), pair(-HAIR), (9, 1)), (pair(-HAIR), (9, 1), (9, 1)),
                    ((9, 1), (9, 1), pair(-HAIR)), (NOUGHT,) * 3, (NOUGHT, NOUGHT, (9, 1))):
            self.assertIs(prices_bound(GAINS, LINES, row), None, row)

    def test_other_lengths(self):
        for many in (0, 1, 3, 4, 8, 40):
            self.assertIs(fit_worth(GAINS, LINES, (NOUGHT,) * many), None)
        for many in (0, 1, 2, 4, 8, 40):
            self.assertIs(prices_bound(GAINS, LINES, ((9, 1),) * many), None)
        self.assertEqual((fit_worth((), (), ()), prices_bound((), (), ())), (NOUGHT, NOUGHT))
        self.assertEqual((fit_worth((), (), (ONE,)), prices_bound((), (), (ONE,))), (None, None))
        self.assertEqual(prices_bound((), (((), TWO),), (THREE,)), (6, 1))

    def test_where_there_is_no_plan(self):
        self.assertEqual(fit_worth((ONE,), (), ((99, 1),)), (99, 1))
        self.assertIs(prices_bound((ONE,), (((NOUGHT,), ONE),), ((99, 1),)), None)

    def test_no_fit_is_worth_more(self):
        rng = rng_of(404)
        met = 0
        for _ in range(200):
            gains, lines = some_fit(rng, 4, 6)
            row = tuple(pair(Fraction(rng.randint(-1, 6), rng.randint(1, 6))) for _ in range(len(gains) + (rng.randrange(9) == 0)))
            prices = tuple(pair(Fraction(rng.randint(-1, 30), rng.randint(1, 3))) for _ in range(len(lines) + (rng.randrange(9) == 0)))
            fit, bound = fit_worth(gains, lines, row), prices_bound(gains, lines, prices)
            self.assertEqual((fit, bound), (worth_otherwise(gains, lines, row), bound_otherwise(gains, lines, prices)))
            if fit is not None and is_bounded(gains, lines):
                self.assertLessEqual(worth(fit), worth(best_fit(gains, lines)[0]))
            if bound is not None:
                self.assertLessEqual(worth(best_fit(gains, lines)[0]), worth(bound))
                met += 1
        self.assertGreater(met, 20)

    def test_told_ones_moved_by_a_hair(self):
        rng = rng_of(405)
        for _ in range(60):
            gains, lines = some_fit(rng, 5, 12)
            if is_bounded(gains, lines):
                most, fit, prices = best_fit(gains, lines)
                for at in range(len(fit)):
                    for by in (HAIR, -HAIR):
                        row = fit[:at] + (pair(worth(fit[at]) + by),) + fit[at + 1:]
                        self.assertEqual(fit_worth(gains, lines, row), worth_otherwise(gains, lines, row))
                for at in range(len(prices)):
                    for by in (HAIR, -HAIR):
                        row = prices[:at] + (pair(worth(prices[at]) + by),) + prices[at + 1:]
                        self.assertEqual(prices_bound(gains, lines, row), bound_otherwise(gains, lines, row))


if __name__ == "__main__":
    unittest.main()
