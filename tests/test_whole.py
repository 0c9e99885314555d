"""What goes over several stages: needs, years, moments and depths of one brine (0.6)."""

import unittest
from fractions import Fraction

from brineways.brims import brimmed, rim_of
from brineways.brines import need, salt_of, strengths, water_of
from brineways.draws import drawn, skimmed
from brineways.errors import BrineError
from brineways.keeper import Keeper
from brineways.ladders import openings
from brineways.needs import need_at, since
from brineways.spells import after, days_of, first_strong, strong_spans
from brineways.works import done
from brineways.years import gone, part_after, turned
from otherwise import some_deed, some_stand, some_works
from support import NOUGHT, ends_of, pair, rng_of, some_area, some_brine, some_full, some_moment, some_weather, some_year, worth

DEEP = (10 ** 6, 1)
HAIR = Fraction(1, 10 ** 9)


class NeedsGoWithTheirBrine(unittest.TestCase):
    def asked(self, full, stand):
        return (full,) + tuple(one for brine in stand for one in strengths(brine))

    def all_needs(self, full, stand, strength):
        return sum(worth(need(full, brine, strength)) for brine in stand)

    def test_led(self):
        rng = rng_of(301)
        met = 0
        for _ in range(450):
            works = some_works(rng, 4, 2, 2)
            stand = some_stand(rng, works)
            deed = some_deed(rng, works, stand)
            try:
                behind = done(works, stand, deed)[0]
            except BrineError:
                continue
            if deed[0] in ("lead", "rake"):
                for strength in self.asked(works[0], stand):
                    self.assertEqual(self.all_needs(works[0], stand, strength), self.all_needs(works[0], behind, strength))
                met += deed[0] == "lead"
            elif deed[0] == "pour":
                for strength in self.asked(works[0], stand):
                    more = worth(need(works[0], (deed[2:],), strength))
                    self.assertEqual(self.all_needs(works[0], stand, strength) + more, self.all_needs(works[0], behind, strength))
        self.assertGreater(met, 25)

    def test_drawn_and_skimmed(self):
        rng = rng_of(302)
        for _ in range(60):
            full = some_full(rng)
            brine = some_brine(rng, full)
            part = pair(worth(water_of(brine)) * Fraction(rng.randint(0, 7), 7))
            for two in (drawn(brine, part), skimmed(brine, part)):
                for strength in self.asked(full, (brine,)):
                    self.assertEqual(self.all_needs(full, two, strength), worth(need(full, brine, strength)))


class YearsAsDeeds(unittest.TestCase):
    def told_years(self, full, area, year, many):
        """A keeper of so many years, each inflow poured at its moment."""
        weather, inflows = year
        keeper = Keeper((full, ((area, DEEP),), weather * many))
        days = worth(days_of(weather))
        for at in range(many):
            for moment, water, salt in inflows:
                keeper.tell(pair(worth(moment) + at * days), ("pour", 0, water, salt))
        return keeper

    def test_as_years_gone(self):
        rng = rng_of(303)
        for _ in range(60):
            full, area = some_full(rng), some_area(rng)
            year = some_year(rng, full, 3)
            many = rng.randint(1, 12 // len(year[0]))
            keeper = self.told_years(full, area, year, many)
            days = days_of(year[0])
            end = pair(worth(days) * many)
            self.assertEqual(keeper.stand_at(end), (gone(full, area, (), year, many),))
            account = [worth(one) for one in keeper.account_at(end)]
            self.assertEqual(account[5], worth(salt_of(gone(full, area, (), year, many))))
            self.assertEqual(account[3], 0)

    def test_parts_of_years(self):
        rng = rng_of(304)
        for _ in range(60):
            full, area = some_full(rng), some_area(rng)
            year = some_year(rng, full, 3)
            days = days_of(year[0])
            moment = pair(worth(days) * Fraction(rng.randint(1, 23), 24))
            if any(inflow[0] == moment for inflow in year[1]):
                continue
            many = rng.randint(1, 12 // len(year[0]) - 1)
            keeper = self.told_years(full, area, year, many + 1)
            at = pair(worth(days) * many + worth(moment))
            part = part_after(full, area, (), year, moment)
            self.assertEqual(keeper.stand_at(at), (gone(full, area, part, turned(year, moment), many),))
            self.assertEqual(keeper.stand_at(at), (part_after(full, area, gone(full, area, (), year, many), year, moment),))


class TheVeryFirstMoment(unittest.TestCase):
    def test_whoever_tells_it(self):
        rng = rng_of(305)
        met = 0
        for _ in range(160):
            full, area, weather = some_full(rng), some_area(rng), some_weather(rng)
            brine = tuple(one for one in some_brine(rng, full, 4) if one[0] != NOUGHT)
            strength = pair(worth(full) * Fraction(rng.randint(1, 6), 6))
            first = first_strong(full, area, brine, weather, strength, NOUGHT)
            spans = strong_spans(full, area, brine, weather, strength)
            self.assertEqual(first, spans[0][0] if spans else None)
            keeper = Keeper((full, ((area, DEEP),), weather))
            for water, salt in brine:
                keeper.tell(NOUGHT, ("pour", 0, water, salt))
            moments = [pair(one) for one in ends_of(weather)] + ([first] if first else [])
            if first is not None and worth(first) > 0:
                moments.append(pair(worth(first) - min(HAIR, worth(first))))
                met += 1
            for moment in moments:
                now = need(full, keeper.stand_at(moment)[0], strength)
                self.assertEqual(now, need_at(full, area, brine, weather, strength, moment))
                if first is None or worth(moment) < worth(first):
                    self.assertGreater(worth(now), 0)
                    self.assertIs(since(full, area, brine, weather, strength, moment), None)
            if first is not None:
                self.assertEqual(need(full, keeper.stand_at(first)[0], strength), NOUGHT)
                self.assertEqual(since(full, area, brine, weather, strength, first), first)
        self.assertGreater(met, 25)

    def test_gates_and_keepers(self):
        rng = rng_of(306)
        met = 0
        for _ in range(80):
            full, area = some_full(rng), some_area(rng)
            weather = ((pair(rng.randint(1, 9)), pair(-Fraction(rng.randint(1, 9), rng.randint(1, 4)))),)
            brine = tuple(one for one in some_brine(rng, full, 4) if one[0] != NOUGHT)
            strength = pair(worth(full) * Fraction(rng.randint(1, 6), 6))
            row = openings((full, ((area, DEEP), (area, DEEP)), weather), (strength,), (brine, ()), days_of(weather))
            first = first_strong(full, area, brine, weather, strength, NOUGHT)
            if row:
                self.assertEqual(row, ((first, 0),))
                met += 1
            elif first is not None:
                self.assertEqual(water_of(after(full, area, brine, weather, first)[0]), NOUGHT)
        self.assertGreater(met, 20)


class DepthsAndRims(unittest.TestCase):
    def test_a_keepers_pan_is_as_brimmed(self):
        rng = rng_of(307)
        over = 0
        for _ in range(80):
            works = some_works(rng, 1, 6)
            pan = works[1][0]
            water = pair(worth(rim_of(pan)) * Fraction(rng.randint(1, 6), 6))
            salt = pair(worth(water) * worth(works[0]) * Fraction(rng.randint(0, 4), 4))
            keeper = Keeper(works)
            keeper.tell(NOUGHT, ("pour", 0, water, salt))
            moment = some_moment(rng, works[2])
            brine, rained, went, spilt = brimmed(works[0], pan, ((water, salt),), works[2], moment)
            self.assertEqual(keeper.stand_at(moment), (brine,))
            self.assertEqual(keeper.account_at(moment), (water, rained, went, spilt, NOUGHT, salt, NOUGHT, NOUGHT))
            over += spilt != NOUGHT
        self.assertGreater(over, 10)


if __name__ == "__main__":
    unittest.main()
