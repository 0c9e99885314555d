"""Needs over time (6.1 to 6.4), together with what stands (0.6)."""

import unittest
from fractions import Fraction

from brineways.brines import need, strengths
from brineways.errors import NoMoment, NoStrength
from brineways.needs import best_begins, came, least_shown, most_shown, need_at, peak, since
from brineways.spells import after, days_of, first_strong, strong_spans
from support import (
    HALF, NOUGHT, ONE, check_fraction, ends_of, fits_spans, layer, need_otherwise, pair, rng_of, some_area,
    some_brine, some_full, some_moment, some_weather, worth,
)

FULL = (1, 3)
AREA = (2, 1)
BRINE = (layer(0, 2), layer(3, 1), layer(5, 1))
# The need for full: 2, 0 from 1 to 2, 3 from 3 to 6, 0 from 51/8 to 13/2.
WEATHER = (((2, 1), (-1, 1)), ((1, 1), (3, 2)), ((3, 1), NOUGHT), (HALF, (-4, 1)))
ASK = (FULL, AREA, BRINE, WEATHER, FULL)
NO_STRENGTHS = (NOUGHT, (-1, 1), (1001, 3000), HALF, ONE)
NO_MOMENTS = ((-1, 1), (-1, 1000), (6501, 1000), (7, 1), (10 ** 40, 7), (-10 ** 40, 7))
OF_ONE_MOMENT = (need_at, since, best_begins)
OF_TWO_MOMENTS = (came, peak)


def some_ask(rng):
    full, weather = some_full(rng), some_weather(rng)
    brine = some_brine(rng, full, 4)
    strength = rng.choice(strengths(brine) + (full, pair(worth(full) * Fraction(rng.randint(1, 9), 9))))
    return (full, some_area(rng), brine, weather, strength)


def came_otherwise(ask, begin, moment):
    """What came, by the words of 6.1; begin and moment are worths."""
    full, area, brine, weather, strength = ask
    total = worth(need_otherwise(brine, strength)) if begin == 0 else Fraction(0)
    for start, (days, net) in zip(ends_of(weather), weather):
        part = min(start + worth(days), moment) - max(start, begin)
        total += worth(area) * worth(net) * max(Fraction(0), part)
    return total


def begins_otherwise(ask, moment):
    return [one for one in ends_of(ask[3]) if one < worth(moment)] + [worth(moment)]


class Refused(unittest.TestCase):
    def test_no_strength_ahead_of_no_moment(self):
        for strength in NO_STRENGTHS:
            ask = ASK[:4] + (strength,)
            for moment in (NOUGHT, (13, 2)) + NO_MOMENTS:
                for function in OF_ONE_MOMENT:
                    with self.assertRaises(NoStrength):
                        function(*ask, moment)
                with self.assertRaises(NoStrength):
                    least_shown(*ask, moment, (NOUGHT, NOUGHT))
                for function in OF_TWO_MOMENTS:
                    for other in (NOUGHT, ONE) + NO_MOMENTS:
                        with self.assertRaises(NoStrength):
                            function(*ask, moment, other)
            for row in ((), ((9, 1),) * 5):
                with self.assertRaises(NoStrength):
                    most_shown(*ask, row)

    def test_no_moment(self):
        for moment in NO_MOMENTS:
            for function in OF_ONE_MOMENT:
                with self.assertRaises(NoMoment):
                    function(*ASK, moment)
            with self.assertRaises(NoMoment):
                least_shown(*ASK, moment, (NOUGHT, NOUGHT))
            with self.assertRaises(NoMoment):
                least_shown(*ASK, moment, (moment, moment))
            for function in OF_TWO_MOMENTS:
                for good in (NOUGHT, ONE, (13, 2)):
                    with self.assertRaises(NoMoment):
                        function(*ASK, moment, good)
                    with self.assertRaises(NoMoment):
                        function(*ASK, good, moment)
                with self.assertRaises(NoMoment):
                    function(*ASK, moment, moment)

    def test_the_second_less_than_the_first(self):
        for function in OF_TWO_MOMENTS:
            for one, other in ((ONE, NOUGHT), (ONE, (999, 1000)), ((13, 2), (2, 1)), ((1, 1), (2, 3))):
                with self.assertRaises(NoMoment):
                    function(*ASK, one, other)


class NeedAt(unittest.TestCase):
    def test_by_hand(self):
        for moment, told in ((NOUGHT, (2, 1)), (HALF, ONE), (ONE, NOUGHT), ((2, 1), NOUGHT), ((7, 3), ONE),
                             ((3, 1), (3, 1)), ((5, 1), (3, 1)), ((6, 1), (3, 1)), ((25, 4), ONE), ((51, 8), NOUGHT),
                             ((13, 2), NOUGHT)):
            self.assertEqual(need_at(*ASK, moment), told)

    def test_as_what_stands_has_it(self):
        rng = rng_of(81)
        for _ in range(200):
            ask = full, area, brine, weather, strength = some_ask(rng)
            moment = some_moment(rng, weather)
            told = need_at(*ask, moment)
            check_fraction(self, told)
            self.assertEqual(told, need_otherwise(after(full, area, brine, weather, moment)[0], strength))
            most = max(came_otherwise(ask, begin, worth(moment)) for begin in begins_otherwise(ask, moment))
            self.assertEqual(told, pair(max(Fraction(0), most)))
            self.assertIs(told == NOUGHT, fits_spans(strong_spans(*ask), moment))
            self.assertIs(told == NOUGHT, first_strong(*ask, moment) == moment)


class Since(unittest.TestCase):
    def test_by_hand(self):
        for moment, told in ((NOUGHT, None), ((999, 1000), None), (ONE, ONE), ((3, 2), (3, 2)), ((2, 1), (2, 1)),
                             ((3, 1), (2, 1)), ((6, 1), (2, 1)), ((50, 8), (2, 1)), ((51, 8), (51, 8)),
                             ((13, 2), (13, 2))):
            self.assertEqual(since(*ASK, pair(worth(moment))), told)
        self.assertEqual(since(FULL, AREA, (), ((ONE, ONE),), FULL, ONE), NOUGHT)

    def test_many(self):
        rng = rng_of(82)
        for _ in range(200):
            ask = full, area, brine, weather, strength = some_ask(rng)
            moment = some_moment(rng, weather)
            told = since(*ask, moment)
            begin = Fraction(0) if told is None else worth(told)
            if told is None or told != NOUGHT:
                self.assertEqual(worth(need_at(*ask, moment)), came_otherwise(ask, begin, worth(moment)))
            if told is not None:
                self.assertLessEqual(begin, worth(moment))
                self.assertEqual(need_at(*ask, told), NOUGHT)
                self.assertEqual(need_at(*ask, moment), pair(came_otherwise(ask, begin, worth(moment))))
            marks = [one for one in ends_of(weather) if begin < one < worth(moment)] + [worth(moment)]
            marks = [begin] + [one for one in marks if one > begin]
            later = marks[1:] + [one + (other - one) * Fraction(k, 8) for one, other in zip(marks, marks[1:]) for k in (1, 5)]
            for one in later + ([Fraction(0)] if told is None else []):
                self.assertNotEqual(need_at(*ask, pair(one)), NOUGHT)


class Came(unittest.TestCase):
    def test_by_hand(self):
        for begin, moment, told in (
            (NOUGHT, NOUGHT, (2, 1)), (NOUGHT, ONE, NOUGHT), (NOUGHT, (2, 1), (-2, 1)), (NOUGHT, (13, 2), (-3, 1)),
            (HALF, HALF, NOUGHT), (HALF, ONE, (-1, 1)), ((2, 1), (3, 1), (3, 1)), ((2, 1), (13, 2), (-1, 1)),
            ((5, 2), (5, 1), (3, 2)), ((13, 2), (13, 2), NOUGHT), (ONE, (3, 1), ONE),
        ):
            self.assertEqual(came(*ASK, begin, moment), told)

    def test_many(self):
        rng = rng_of(83)
        for _ in range(200):
            ask = some_ask(rng)
            begin, moment = sorted((worth(some_moment(rng, ask[3])), worth(some_moment(rng, ask[3]))))
            told = came(*ask, pair(begin), pair(moment))
            check_fraction(self, told)
            self.assertEqual(told, pair(came_otherwise(ask, begin, moment)))
            self.assertLessEqual(worth(told), worth(need_at(*ask, pair(moment))))


class BestBegins(unittest.TestCase):
    def test_by_hand(self):
        for moment, told in (
            (NOUGHT, (NOUGHT,)), (HALF, (NOUGHT,)), (ONE, (NOUGHT, ONE)), ((3, 2), ((3, 2),)), ((2, 1), ((2, 1),)),
            ((3, 1), ((2, 1),)), ((5, 1), ((2, 1),)), ((51, 8), ((2, 1), (51, 8))), ((13, 2), ((13, 2),)),
        ):
            self.assertEqual(best_begins(*ASK, moment), told)

    def test_all_of_them(self):
        weather = ((ONE, NOUGHT), (ONE, ONE), (ONE, (-1, 1)), (ONE, ONE))
        for moment, told in ((NOUGHT, (NOUGHT,)), (HALF, (NOUGHT, HALF)), (ONE, (NOUGHT, ONE)), ((2, 1), (NOUGHT, ONE)),
                             ((3, 1), (NOUGHT, ONE, (3, 1))), ((4, 1), (NOUGHT, ONE, (3, 1)))):
            self.assertEqual(best_begins(FULL, AREA, (), weather, FULL, moment), told)

    def test_many(self):
        rng = rng_of(84)
        for _ in range(200):
            ask = some_ask(rng)
            moment = some_moment(rng, ask[3])
            begins = begins_otherwise(ask, moment)
            amounts = [came_otherwise(ask, begin, worth(moment)) for begin in begins]
            right = tuple(pair(begin) for begin, amount in zip(begins, amounts) if amount == max(amounts))
            self.assertEqual(best_begins(*ask, moment), right)
            self.assertEqual(need_at(*ask, moment), pair(max(amounts)))


class Peak(unittest.TestCase):
    def test_by_hand(self):
        for one, other, told in (
            (NOUGHT, NOUGHT, ((2, 1), NOUGHT)), (NOUGHT, ONE, ((2, 1), NOUGHT)), (ONE, (2, 1), (NOUGHT, ONE)),
            ((3, 2), (3, 2), (NOUGHT, (3, 2))), (NOUGHT, (13, 2), ((3, 1), (3, 1))), ((4, 1), (13, 2), ((3, 1), (4, 1))),
            ((2, 1), (5, 2), ((3, 2), (5, 2))), ((25, 4), (13, 2), (ONE, (25, 4))), ((51, 8), (13, 2), (NOUGHT, (51, 8))),
            (NOUGHT, (8, 3), ((2, 1), NOUGHT)), (ONE, (3, 1), ((3, 1), (3, 1))),
        ):
            self.assertEqual(peak(*ASK, one, other), told)

    def test_of_two_alike_the_first(self):
        weather = ((ONE, ONE), (ONE, (-1, 1)), (ONE, ONE))
        self.assertEqual(peak(FULL, AREA, (), weather, FULL, NOUGHT, (3, 1)), ((2, 1), ONE))
        self.assertEqual(peak(FULL, AREA, (), weather, FULL, (3, 2), (3, 1)), ((2, 1), (3, 1)))

    def test_many(self):
        rng = rng_of(85)
        for _ in range(150):
            ask = some_ask(rng)
            one, other = sorted((worth(some_moment(rng, ask[3])), worth(some_moment(rng, ask[3]))))
            marks = sorted({one, other} | {end for end in ends_of(ask[3]) if one < end < other})
            marks += [a + (b - a) * Fraction(k, 5) for a, b in zip(marks, marks[1:]) for k in (1, 2, 3, 4)]
            needs = {mark: worth(need_at(*ask, pair(mark))) for mark in sorted(marks)}
            most = max(needs.values())
            told = peak(*ask, pair(one), pair(other))
            self.assertEqual(told, (pair(most), pair(min(mark for mark in needs if needs[mark] == most))))


class Papers(unittest.TestCase):
    def test_least_by_hand(self):
        for moment, thing, right in (
            ((3, 1), ((2, 1), (3, 1)), True), ((3, 1), ((2, 1), (3001, 1000)), False), ((3, 1), ((2, 1), (-5, 1)), True),
            ((3, 1), (ONE, ONE), True), ((3, 1), (ONE, (1001, 1000)), False), ((3, 1), ((5, 2), (3, 2)), True),
            ((3, 1), ((3, 1), NOUGHT), True), ((3, 1), ((3, 1), (1, 1000)), False), ((3, 1), ((3001, 1000), NOUGHT), False),
            ((3, 1), ((13, 2), (-9, 1)), False), ((3, 1), ((-1, 1), (-9, 1)), False), ((13, 2), ((7, 1), (-9, 1)), False),
            (HALF, (NOUGHT, ONE), True), (HALF, (NOUGHT, (1001, 1000)), False), (HALF, ((1, 4), (-1, 2)), True),
            (HALF, ((1, 4), NOUGHT), False), (NOUGHT, (NOUGHT, (2, 1)), True), (NOUGHT, (NOUGHT, (2001, 1000)), False),
            ((2, 1), (NOUGHT, (-2, 1)), True), ((2, 1), (NOUGHT, (-1999, 1000)), False),
        ):
            self.assertIs(least_shown(*ASK, moment, thing), right, (moment, thing))

    def test_most_by_hand(self):
        good = ((2, 1), NOUGHT, (3, 1), (3, 1), NOUGHT)
        self.assertIs(most_shown(*ASK, good), True)
        self.assertIs(most_shown(*ASK, ((9, 1),) * 5), False)
        self.assertIs(most_shown(*ASK, ((2, 1), NOUGHT, (3, 1), (3, 1), (99, 1))), True)
        self.assertIs(most_shown(*ASK, ((9, 1), (5, 1), (8, 1), (8, 1), (4, 1))), True)
        for at in range(5):
            lower = pair(worth(good[at]) - Fraction(1, 1000))
            self.assertIs(most_shown(*ASK, good[:at] + (lower,) + good[at + 1:]), False)
        for at in range(5):
            higher = pair(worth(good[at]) + Fraction(1, 1000))
            # What is higher must be met by the next one, which sun may make up for.
            self.assertIs(most_shown(*ASK, good[:at] + (higher,) + good[at + 1:]), at in (0, 3, 4))

    def test_most_of_other_lengths(self):
        good = ((2, 1), NOUGHT, (3, 1), (3, 1), NOUGHT)
        for row in ((), good[:1], good[:4], good[1:], good + (NOUGHT,), good + ((9, 1),), good * 2):
            self.assertIs(most_shown(*ASK, row), False)

    def test_least_of_many(self):
        rng = rng_of(86)
        for _ in range(200):
            ask = some_ask(rng)
            moment, begin = some_moment(rng, ask[3]), some_moment(rng, ask[3])
            begin = rng.choice((begin, begin, begin, moment, (-1, 7), pair(worth(days_of(ask[3])) + 1)))
            fine = 0 <= worth(begin) <= worth(moment)
            amount = came_otherwise(ask, worth(begin), worth(moment))
            for by in (Fraction(0), Fraction(-1, 9), Fraction(1, 10 ** 9), Fraction(-50)):
                thing = (begin, pair(amount + by))
                self.assertIs(least_shown(*ask, moment, thing), fine and by <= 0)
                if least_shown(*ask, moment, thing):
                    self.assertLessEqual(worth(thing[1]), worth(need_at(*ask, moment)))
            for right in best_begins(*ask, moment):
                self.assertIs(least_shown(*ask, moment, (right, need_at(*ask, moment))), True)

    def test_most_of_many(self):
        rng = rng_of(87)
        for _ in range(200):
            ask = full, area, brine, weather, strength = some_ask(rng)
            row = tuple(need_at(*ask, pair(end)) for end in ends_of(weather))
            self.assertIs(most_shown(*ask, row), True)
            raised = [worth(row[0]) + Fraction(rng.randint(0, 2))]
            for days, net in weather:
                due = max(Fraction(0), raised[-1] + worth(area) * worth(net) * worth(days))
                raised.append(due + Fraction(rng.randint(0, 2)))
            raised = tuple(pair(one) for one in raised)
            self.assertIs(most_shown(*ask, raised), True)
            self.assertGreaterEqual(worth(raised[-1]), worth(row[-1]))
            at = rng.randrange(len(row))
            lower = pair(worth(row[at]) - Fraction(1, 10 ** 9))
            self.assertIs(most_shown(*ask, row[:at] + (lower,) + row[at + 1:]), False)


if __name__ == "__main__":
    unittest.main()
