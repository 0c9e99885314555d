"""Works, stands and deeds, what is one and what is none (9.1, 9.2)."""

import unittest
from fractions import Fraction

from brineways.works import is_deed, is_stand, is_works
from otherwise import rim_otherwise, some_deed, some_stand, some_works
from support import HALF, NOUGHT, ONE, STRANGE, layer, pair, rng_of

FULL = (1, 3)
PAN = ((2, 1), (5, 1))          # Its rim: 10.
SMALL_PAN = (ONE, ONE)
SPELL = (ONE, (-1, 2))
WORKS = (FULL, (PAN, SMALL_PAN, PAN), (SPELL, ((2, 1), ONE)))


class IsWorks(unittest.TestCase):
    def test_good_ones(self):
        for many in range(1, 6):
            self.assertIs(is_works((FULL, (PAN,) * many, (SPELL,))), True)
        for many in range(1, 13):
            self.assertIs(is_works(((7, 2), (SMALL_PAN,), (SPELL,) * many)), True)
        self.assertIs(is_works(WORKS), True)
        rng = rng_of(201)
        for _ in range(40):
            self.assertIs(is_works(some_works(rng)), True)

    def test_how_many_pans_and_spells(self):
        for many in (0, 6, 7, 12):
            self.assertIs(is_works((FULL, (PAN,) * many, (SPELL,))), False)
        for many in (0, 13, 14):
            self.assertIs(is_works((FULL, (PAN,), (SPELL,) * many)), False)

    def test_anything_else(self):
        pans, weather = (PAN,), (SPELL,)
        for thing in STRANGE + (
            (), (FULL,), (FULL, pans), (FULL, pans, weather, weather), [FULL, pans, weather], (FULL, list(pans), weather),
            (FULL, pans, list(weather)), (FULL, weather, pans), (pans, FULL, weather), (NOUGHT, pans, weather),
            ((-1, 3), pans, weather), ((2, 6), pans, weather), (1, pans, weather), ((True, 3), pans, weather),
            (FULL, PAN, weather), (FULL, pans, SPELL), (FULL, (PAN, None), weather), (FULL, (PAN, (ONE, NOUGHT)), weather),
            (FULL, pans, (SPELL, (NOUGHT, ONE))), (FULL, pans, (SPELL, [ONE, ONE])), (FULL, {0: PAN}, weather),
            (FULL, "p", "w"), (FULL, (list(PAN),), weather), (FULL, pans, None), {0: FULL, 1: pans, 2: weather},
        ):
            self.assertIs(is_works(thing), False, thing)
        for thing in STRANGE:
            for works in ((thing, pans, weather), (FULL, thing, weather), (FULL, pans, thing), (FULL, (thing,), weather),
                          (FULL, (PAN, thing), weather), (FULL, pans, (thing,)), (FULL, pans, (SPELL, thing))):
                self.assertIs(is_works(works), False, works)

    def test_a_weather_without_sun(self):
        self.assertIs(is_works((FULL, (PAN,), ((ONE, NOUGHT), (HALF, (7, 2))))), True)


class IsStand(unittest.TestCase):
    def test_good_ones(self):
        for stand in (((), (), ()), ((layer(10, 0),), (layer(1, "1/3"),), (layer(0, 99), layer(9, 3), layer(1, "1/4")))):
            self.assertIs(is_stand(WORKS, stand), True)
        rng = rng_of(202)
        for _ in range(60):
            works = some_works(rng)
            self.assertIs(is_stand(works, some_stand(rng, works)), True)

    def test_the_rim(self):
        more = Fraction(1, 1000)
        for pan in range(3):
            rim = rim_otherwise(WORKS[1][pan])
            for brine, told in (((layer(rim, 0),), True), ((layer(rim + more, 0),), False),
                                ((layer(rim / 2, 0),), True), ((layer(rim, rim / 3),), True),
                                ((layer(rim / 2, rim / 6), layer(rim / 2, 0)), True),
                                ((layer(rim / 2, rim / 6), layer(rim / 2 + more, 0)), False),
                                ((layer(0, rim * 9),), True)):
                stand = ((),) * pan + (brine,) + ((),) * (2 - pan)
                self.assertIs(is_stand(WORKS, stand), told, stand)

    def test_the_full_strength(self):
        for salt, told in ((Fraction(1, 3), True), (Fraction(1, 3) + Fraction(1, 1000), False), (1, False)):
            self.assertIs(is_stand(WORKS, ((), (layer(1, salt),), ())), told)

    def test_too_few_and_too_many(self):
        for many in (0, 1, 2, 4, 5, 6):
            self.assertIs(is_stand(WORKS, ((),) * many), False)

    def test_anything_else(self):
        good = (layer(1, 0),)
        for thing in STRANGE + (
            None, [(), (), ()], ((), (), None), ((), (), []), ((), (), [layer(1, 0)]), ((), (), (list(layer(1, 0)),)),
            (good, (), layer(1, 0)), ((layer(1, 0), layer(1, "1/3")), (), ()), ((layer(1, 0), layer(1, 0)), (), ()),
            ((layer(0, 0),), (), ()), ((layer(-1, 0),), (), ()), ((layer(0, 1), layer(0, 1)), (), ()), "abc", {0: (), 1: (), 2: ()},
            ((((2, 2), NOUGHT),), (), ()), ((((True, 1), NOUGHT),), (), ()),
        ):
            self.assertIs(is_stand(WORKS, thing), False, thing)
        for thing in STRANGE:
            if thing != ():
                self.assertIs(is_stand(WORKS, ((), thing, ())), False, thing)


class IsDeed(unittest.TestCase):
    GOOD = (
        ("pour", 0, ONE, NOUGHT), ("pour", 2, (3, 1), ONE), ("pour", 1, HALF, (1, 7)), ("lead", 0, 1, HALF, "under", True),
        ("lead", 0, 1, HALF, "over", False), ("lead", 1, 1, (10 ** 6, 1), "under", False), ("let", 0, (1, 1000)),
        ("let", 2, (10 ** 6, 7)), ("rake", 0), ("stir", 2),
    )

    def test_good_ones(self):
        for deed in self.GOOD:
            self.assertIs(is_deed(WORKS, deed), True, deed)
        rng = rng_of(203)
        for _ in range(80):
            works = some_works(rng)
            self.assertIs(is_deed(works, some_deed(rng, works)), True)

    def test_pans_that_are_not_there(self):
        for pan in (-1, 3, 5, 999, -10 ** 30, 10 ** 30):
            for deed in (("pour", pan, ONE, NOUGHT), ("lead", pan, 0, ONE, "over", True), ("lead", 0, pan, ONE, "over", True),
                         ("let", pan, ONE), ("rake", pan), ("stir", pan)):
                self.assertIs(is_deed(WORKS, deed), True, deed)

    def test_wrong_words(self):
        for deed in self.GOOD:
            for word in ("", "Pour", "pours", "po", " pour", "pour ", b"pour", None, 0, True, ["pour"], ("pour",), {"pour": 1}, {"pour"}):
                self.assertIs(is_deed(WORKS, (word,) + deed[1:]), False, (word, deed))
            for word in ("pour", "lead", "let", "rake", "stir"):
                fits = (word in ("rake", "stir")) and len(deed) == 2
                self.assertIs(is_deed(WORKS, (word,) + deed[1:]), word == deed[0] or fits, (word, deed))

    def test_wrong_lengths_and_kinds(self):
        for deed in self.GOOD:
            for thing in (deed[:-1], deed + (True,), deed + (0,), deed + (ONE,), deed[1:], list(deed), (deed,), deed * 2,
                          " ".join(str(part) for part in deed), dict(enumerate(deed)), (list(deed),)):
                self.assertIs(is_deed(WORKS, thing), False, thing)

    def test_wrong_pans(self):
        for deed in self.GOOD:
            for pan in (True, False, None, "0", b"0", ONE, (0,), [0], {}, ()):
                self.assertIs(is_deed(WORKS, deed[:1] + (pan,) + deed[2:]), False, (pan, deed))
                if deed[0] == "lead":
                    self.assertIs(is_deed(WORKS, deed[:2] + (pan,) + deed[3:]), False, (pan, deed))

    def test_wrong_amounts_of_water(self):
        for deed in self.GOOD:
            at = {"pour": 2, "lead": 3, "let": 2}.get(deed[0])
            if at:
                for water in (NOUGHT, (-1, 1), (-1, 1000), (2, 2), (0, 2), (1, 0), (1, -1), (True, 1), (1, True), 1, "1", None,
                              True, [1, 1], (1,), (1, 1, 1), ((1, 1), (1, 1))):
                    self.assertIs(is_deed(WORKS, deed[:at] + (water,) + deed[at + 1:]), False, (water, deed))

    def test_salt(self):
        for water in (ONE, (3, 1), (7, 2), (1, 1000)):
            most = Fraction(*water) / 3
            for salt, told in ((0, True), (most, True), (most / 2, True), (most + Fraction(1, 1000), False), (most * 2, False),
                               (Fraction(-1, 1000), False)):
                self.assertIs(is_deed(WORKS, ("pour", 0, water, pair(salt))), told, (water, salt))
        for salt in (0, None, "0", [0, 1], (0, 2), (0, True), True, (), ((0, 1),)):
            self.assertIs(is_deed(WORKS, ("pour", 0, ONE, salt)), False, salt)
        self.assertIs(is_deed(((1, 2),) + WORKS[1:], ("pour", 0, (2, 1), ONE)), True)

    def test_how_and_anyhow(self):
        for how in ("", "Under", "above", "under ", "ove", b"under", None, True, 0, ["under"], ("over",), {"over": 1}, {"over"}):
            self.assertIs(is_deed(WORKS, ("lead", 0, 1, ONE, how, True)), False, how)
        for anyhow in (0, 1, None, "", "True", (), [], ONE, (True,), [True]):
            self.assertIs(is_deed(WORKS, ("lead", 0, 1, ONE, "under", anyhow)), False, anyhow)

    def test_anything_else(self):
        for thing in STRANGE + ((), None, "pour", "rake 0", ("rake",), ("stir",), ("rake", 0, 0), ["rake", 0], {"rake": 0}):
            self.assertIs(is_deed(WORKS, thing), False, thing)
        for thing in STRANGE:
            for deed in self.GOOD:
                for at in range(len(deed)):
                    told = is_deed(WORKS, deed[:at] + (thing,) + deed[at + 1:])
                    whole = type(thing) is int and (at == 1 or (at == 2 and deed[0] == "lead"))
                    truth = type(thing) is bool and at == 5
                    self.assertIs(told, whole or truth, (thing, deed, at))


if __name__ == "__main__":
    unittest.main()
