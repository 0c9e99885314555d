"""A keeper: deeds told, dropped and undone, the stand and the account (10.1 to 10.3)."""

import unittest
from itertools import permutations

from brineways.brines import salt_of, water_of
from brineways.clamps import clamped
from brineways.brims import clamp_of
from brineways.errors import BrineError, NoDeed, NoLater, NoMoment, NoPan, NoRoom, NoWater, Weaker
from brineways.keeper import Keeper
from brineways.spells import days_of
from brineways.works import is_stand
from otherwise import kept_otherwise, some_told, some_works
from support import HALF, NOUGHT, ONE, STRANGE, check_brine, check_fraction, layer, pair, rng_of, some_moment, worth

FULL = (1, 3)
PANS = (((2, 1), (5, 1)), ((1, 1), (4, 1)))                 # Rims: 10, 4.
WEATHER = (((2, 1), (-1, 1)), ((1, 1), (3, 1)), ((1, 1), NOUGHT))
WORKS = (FULL, PANS, WEATHER)
END = (4, 1)
NO_MOMENTS = STRANGE + ((-1, 1), (-1, 1000), (4001, 1000), (5, 1), (2, 2), (1, 0), (1, True), (True, 1), [1, 1], "1", 1)
POUR = ("pour", 0, (4, 1), ONE)


def face(keeper, moments=(NOUGHT, HALF, ONE, (3, 2), (2, 1), (5, 2), (3, 1), END)):
    """All that a keeper tells."""
    stands = tuple(keeper.stand_at(moment) for moment in moments)
    return keeper.deeds(), stands, tuple(keeper.account_at(moment) for moment in moments)


def told(*pairs, works=WORKS):
    keeper = Keeper(works)
    for moment, deed in pairs:
        keeper.tell(moment, deed)
    return keeper


class Cases(unittest.TestCase):
    def refused(self, refusal, call, *handed):
        with self.assertRaises(BrineError) as caught:
            call(*handed)
        self.assertIs(type(caught.exception), refusal, handed)
        return caught.exception

    def refused_and_still(self, keeper, refusal, call, *handed):
        before = face(keeper)
        caught = self.refused(refusal, call, *handed)
        self.assertEqual(face(keeper), before)
        return caught

    def check_account(self, keeper, works, moment):
        """Water and salt poured and rained is what stands or went (10.3)."""
        account = keeper.account_at(moment)
        self.assertEqual((type(account), len(account)), (tuple, 8))
        for one in account:
            check_fraction(self, one)
        poured, rained, gone, over, let, salt, salt_let, raked = [worth(one) for one in account]
        stand = keeper.stand_at(moment)
        self.assertIs(is_stand(works, stand), True)
        for brine in stand:
            check_brine(self, brine)
        self.assertEqual(poured + rained, sum(worth(water_of(one)) for one in stand) + gone + over + let)
        self.assertEqual(salt, sum(worth(salt_of(one)) for one in stand) + salt_let + raked)


class Telling(Cases):
    def test_a_new_keeper(self):
        keeper = Keeper(WORKS)
        self.assertEqual(keeper.deeds(), [])
        self.assertEqual(keeper.stand_at(NOUGHT), ((), ()))
        self.assertEqual(keeper.account_at((2, 1)), (NOUGHT,) * 8)
        self.assertEqual(keeper.stand_at(END), ((layer(6, 0),), (layer(3, 0),)))
        self.assertEqual(keeper.account_at(END), (NOUGHT, (9, 1)) + (NOUGHT,) * 6)

    def test_in_time(self):
        keeper = Keeper(WORKS)
        self.assertEqual(keeper.tell(NOUGHT, POUR), 0)
        self.assertEqual(keeper.tell(HALF, ("lead", 0, 1, (3, 1), "under", False)), 1)
        self.assertEqual(keeper.tell((2, 1), ("rake", 1)), 2)
        self.assertEqual(keeper.stand_at(NOUGHT), ((layer(4, 1),), ()))
        # By one half 1 of water went: 3 with all salt is full, and all of it is led.
        self.assertEqual(keeper.stand_at(HALF), ((), (layer(3, 1),)))
        self.assertEqual(keeper.stand_at((2, 1)), ((), (layer("3/2", "1/2"),)))
        self.assertEqual(keeper.account_at((2, 1)),
                         ((4, 1), NOUGHT, (5, 2), NOUGHT, NOUGHT, ONE, NOUGHT, HALF))
        self.assertEqual(keeper.deeds(), [
            (NOUGHT, 0, POUR), (HALF, 1, ("lead", 0, 1, (3, 1), "under", False)), ((2, 1), 2, ("rake", 1)),
        ])

    def test_late(self):
        pairs = ((NOUGHT, POUR), (HALF, ("lead", 0, 1, ONE, "over", False)), (ONE, ("stir", 0)), ((5, 2), ("let", 0, ONE)),
                 ((3, 1), ("rake", 0)))
        in_time = face(told(*pairs))
        late = Keeper(WORKS)
        self.assertEqual([late.tell(*pairs[at]) for at in (0, 4, 3, 2, 1)], [0, 1, 2, 3, 4])
        self.assertEqual(face(late)[1:], in_time[1:])
        self.assertEqual([number for _, number, _ in late.deeds()], [0, 4, 3, 2, 1])
        self.assertEqual([(moment, deed) for moment, _, deed in late.deeds()], list(pairs))

    def test_several_at_one_moment_by_their_numbers(self):
        keeper = told((ONE, POUR), (ONE, ("let", 0, ONE)), (ONE, ("pour", 0, ONE, NOUGHT)), (ONE, ("let", 0, (2, 1))))
        self.assertEqual(keeper.stand_at(ONE), ((layer(2, "1/2"),), ()))
        self.assertEqual([number for _, number, _ in keeper.deeds()], [0, 1, 2, 3])
        other = told((ONE, POUR), (ONE, ("pour", 0, ONE, NOUGHT)), (ONE, ("let", 0, ONE)), (ONE, ("let", 0, (2, 1))))
        self.assertEqual(other.stand_at(ONE), ((layer(2, "1/2"),), ()))
        self.assertEqual(keeper.account_at(ONE)[6], (1, 2))
        self.assertEqual(told((ONE, ("pour", 0, ONE, NOUGHT)), (ONE, POUR), (ONE, ("stir", 0)), (ONE, ("let", 0, ONE))).account_at(ONE)[6],
                         (1, 5))
        # Behind all earlier told ones of its moment: pan 0 has nothing left.
        self.refused_and_still(keeper, NoWater, keeper.tell, ONE, ("let", 0, (3, 1)))

    def test_the_weather_goes_first(self):
        keeper = told(((2, 1), ("pour", 1, (4, 1), ONE)), ((3, 1), ("let", 1, ONE)))
        # The rain of the last day went over, and what is let is brine.
        self.assertEqual(keeper.stand_at((3, 1)), ((layer(6, 0),), (layer(3, "3/4"),)))
        self.assertEqual(keeper.account_at((3, 1)), ((4, 1), (9, 1), NOUGHT, (3, 1), ONE, ONE, (1, 4), NOUGHT))

    def test_no_moment_of_anything_ahead_of_all(self):
        keeper = told((NOUGHT, POUR))
        for moment in NO_MOMENTS:
            for deed in (POUR, None, ("rake", 9), ("let", 0, (99, 1))):
                self.refused(NoMoment, keeper.tell, moment, deed)
        self.assertEqual(face(keeper), face(told((NOUGHT, POUR))))
        self.assertEqual(keeper.tell(END, ("rake", 0)), 1)

    def test_refused_in_its_place(self):
        keeper = told((ONE, POUR), ((3, 1), ("let", 0, ONE)))
        for thing in STRANGE + ((), ["rake", 0], ("rake", True), ("pour", 0, NOUGHT, NOUGHT)):
            self.refused_and_still(keeper, NoDeed, keeper.tell, ONE, thing)
        self.refused_and_still(keeper, NoPan, keeper.tell, ONE, ("rake", 2))
        self.refused_and_still(keeper, NoPan, keeper.tell, ONE, ("lead", 1, 1, ONE, "under", True))
        # At one half pan 0 has nothing yet, at 1 it has.
        self.refused_and_still(keeper, NoWater, keeper.tell, HALF, ("let", 0, ONE))
        self.refused_and_still(keeper, NoRoom, keeper.tell, ONE, ("pour", 0, (6001, 1000), NOUGHT))
        weak = told((ONE, POUR), (ONE, ("pour", 1, ONE, (1, 3))))
        self.refused_and_still(weak, Weaker, weak.tell, ONE, ("lead", 0, 1, ONE, "under", False))
        self.assertEqual(weak.tell(ONE, ("lead", 0, 1, ONE, "under", True)), 2)
        self.assertEqual(keeper.tell(ONE, ("let", 0, ONE)), 2)

    def test_its_own_refusal_ahead_of_no_later(self):
        keeper = told((ONE, POUR), (ONE, ("let", 0, (4, 1))))
        self.refused_and_still(keeper, NoWater, keeper.tell, NOUGHT, ("let", 0, ONE))
        self.refused_and_still(keeper, NoRoom, keeper.tell, NOUGHT, ("pour", 0, (11, 1), NOUGHT))


class Later(Cases):
    def test_the_number_of_the_first_later_one(self):
        keeper = told(((3, 1), ("let", 0, (5, 1))), (ONE, POUR), ((3, 1), ("let", 0, ONE)), (END, ("let", 0, ONE)), ((2, 1), ("stir", 0)))
        caught = self.refused_and_still(keeper, NoLater, keeper.tell, (5, 2), ("let", 0, (5, 2)))
        self.assertEqual(caught.number, 2)
        self.assertEqual(self.refused_and_still(keeper, NoLater, keeper.tell, (5, 2), ("let", 0, (3, 2))).number, 3)
        caught = self.refused_and_still(keeper, NoLater, keeper.tell, (5, 2), ("let", 0, (9, 2)))
        self.assertEqual(caught.number, 0)
        self.assertIs(type(caught.number), int)
        self.assertEqual(keeper.tell(END, ("rake", 0)), 5)

    def test_by_room_and_by_weaker(self):
        keeper = told(((2, 1), ("pour", 0, (4, 1), ONE)), ((2, 1), ("lead", 0, 1, ONE, "over", False)), ((2, 1), ("pour", 0, (7, 1), NOUGHT)))
        self.assertEqual(self.refused_and_still(keeper, NoLater, keeper.tell, (3, 2), ("pour", 0, (3, 1), ONE)).number, 2)
        # What is poured by 3/2 stands then as full brine: weaker is not led onto it.
        self.assertEqual(self.refused_and_still(keeper, NoLater, keeper.tell, (3, 2), ("pour", 1, ONE, (1, 3))).number, 1)

    def test_the_next_number_behind_a_refusal(self):
        keeper = told((NOUGHT, POUR), (ONE, ("let", 0, (2, 1))))
        self.assertEqual(self.refused_and_still(keeper, NoLater, keeper.tell, NOUGHT, ("let", 0, ONE)).number, 1)
        self.assertEqual(keeper.tell(NOUGHT, ("stir", 0)), 2)
        self.refused_and_still(keeper, NoLater, keeper.tell, NOUGHT, ("let", 0, ONE))
        keeper.back()
        self.assertEqual(keeper.tell(NOUGHT, ("stir", 0)), 2)


class Dropping(Cases):
    def test_as_without_it(self):
        pairs = ((NOUGHT, POUR), (HALF, ("pour", 1, ONE, NOUGHT)), (ONE, ("let", 0, ONE)), (ONE, ("stir", 0)), ((3, 1), ("rake", 0)))
        for at in range(1, 5):
            keeper = told(*pairs)
            self.assertIs(keeper.drop(at), None)
            without = told(*(pairs[:at] + pairs[at + 1:]))
            self.assertEqual(face(keeper)[1:], face(without)[1:])
            self.assertEqual([number for _, number, _ in keeper.deeds()], [one for one in range(5) if one != at])
            self.assertEqual(keeper.tell(END, ("rake", 0)), 5)

    def test_no_deed_of_what_is_none(self):
        keeper = told((NOUGHT, POUR), (ONE, ("stir", 0)), (END, ("rake", 0)))
        keeper.drop(1)
        for number in STRANGE + (1, 3, 4, -1, 10 ** 30, True, False, None, "0", (0,), [0], NOUGHT, POUR):
            if type(number) is not int or number not in (0, 2):
                self.refused_and_still(keeper, NoDeed, keeper.drop, number)
        self.refused(NoDeed, Keeper(WORKS).drop, 0)
        keeper.drop(2)
        keeper.drop(0)
        self.refused_and_still(keeper, NoDeed, keeper.drop, 0)
        self.assertEqual(keeper.deeds(), [])
        self.assertEqual(keeper.tell(NOUGHT, POUR), 3)

    def test_no_later(self):
        keeper = told((ONE, ("stir", 0)), (ONE, POUR), (ONE, ("stir", 0)), (ONE, ("let", 0, ONE)), ((2, 1), ("let", 0, HALF)), (HALF, ("rake", 1)))
        self.assertEqual(self.refused_and_still(keeper, NoLater, keeper.drop, 1).number, 3)
        keeper.drop(3)
        self.assertEqual(self.refused_and_still(keeper, NoLater, keeper.drop, 1).number, 4)
        keeper.drop(4)
        keeper.drop(1)
        self.assertEqual([number for _, number, _ in keeper.deeds()], [5, 0, 2])


class Back(Cases):
    def test_of_tellings_and_droppings(self):
        keeper = Keeper(WORKS)
        faces = [face(keeper)]
        for step in ((NOUGHT, POUR), (ONE, ("let", 0, ONE)), 1, (HALF, ("stir", 0)), ((2, 1), ("rake", 0)), 2, 0):
            if isinstance(step, int):
                keeper.drop(step)
            else:
                keeper.tell(*step)
            faces.append(face(keeper))
        while len(faces) > 1:
            self.assertEqual(face(keeper), faces.pop())
            self.assertIs(keeper.back(), None)
        self.assertEqual(face(keeper), faces[0])
        for _ in range(2):
            self.refused_and_still(keeper, NoDeed, keeper.back)

    def test_the_numbers_behind_it(self):
        keeper = told((NOUGHT, POUR), (ONE, ("stir", 0)))
        keeper.back()
        self.assertEqual(keeper.tell(ONE, ("let", 0, ONE)), 1)
        keeper.drop(1)
        self.assertEqual(keeper.tell(ONE, ("stir", 0)), 2)
        keeper.back()
        self.assertEqual(keeper.deeds(), [(NOUGHT, 0, POUR)])
        keeper.back()
        self.assertEqual(keeper.deeds(), [(NOUGHT, 0, POUR), (ONE, 1, ("let", 0, ONE))])
        self.assertEqual(keeper.tell(HALF, ("stir", 0)), 2)
        keeper.back()
        keeper.back()
        keeper.back()
        self.refused_and_still(keeper, NoDeed, keeper.back)
        self.assertEqual(keeper.tell(HALF, ("stir", 0)), 0)

    def test_refusals_are_nothing_to_undo(self):
        keeper = told((NOUGHT, POUR), (ONE, ("let", 0, (2, 1))))
        self.refused(NoLater, keeper.drop, 0)
        self.refused(NoDeed, keeper.drop, 7)
        self.refused(NoLater, keeper.tell, NOUGHT, ("let", 0, (4, 1)))
        self.refused(NoMoment, keeper.tell, (9, 1), POUR)
        keeper.back()
        self.assertEqual(keeper.deeds(), [(NOUGHT, 0, POUR)])
        keeper.back()
        self.refused(NoDeed, keeper.back)


class Told(Cases):
    def test_no_moment_of_anything(self):
        keeper = told((NOUGHT, POUR))
        for moment in NO_MOMENTS:
            self.refused(NoMoment, keeper.stand_at, moment)
            self.refused(NoMoment, keeper.account_at, moment)

    def test_the_list_of_deeds_is_the_askers_own(self):
        keeper = told((NOUGHT, POUR), (ONE, ("stir", 0)))
        before = face(keeper)
        row = keeper.deeds()
        self.assertIs(type(row), list)
        row.pop()
        row[0] = None
        row.append(POUR)
        self.assertEqual(face(keeper), before)
        self.assertIsNot(keeper.deeds(), keeper.deeds())
        keeper.tell(ONE, ("stir", 0))
        self.assertEqual(len(before[0]), 2)

    def test_two_side_by_side(self):
        one, other = Keeper(WORKS), Keeper(WORKS)
        one.tell(NOUGHT, POUR)
        self.assertEqual(face(other), face(Keeper(WORKS)))
        self.assertEqual(other.tell(NOUGHT, ("pour", 1, ONE, NOUGHT)), 0)
        self.assertEqual(one.tell(ONE, ("let", 0, ONE)), 1)
        other.back()
        self.assertEqual(face(other), face(Keeper(WORKS)))
        self.assertEqual(face(one), face(told((NOUGHT, POUR), (ONE, ("let", 0, ONE)))))
        self.refused(NoDeed, other.back)
        one.back()

    def test_asked_again(self):
        keeper = told((NOUGHT, POUR), (ONE, ("let", 0, ONE)), ((3, 1), ("stir", 0)))
        self.assertEqual(face(keeper), face(keeper))
        self.assertEqual(face(keeper, (END, NOUGHT, ONE))[1:], tuple(row[::-1] for row in face(keeper, (ONE, NOUGHT, END))[1:]))

    def test_depths_go_by_clamps(self):
        rng = rng_of(221)
        for _ in range(40):
            works = some_works(rng)
            keeper = Keeper(works)
            for pan, held in enumerate(works[1]):
                water = pair(worth(held[0]) * worth(held[1]) * rng.randint(1, 4) / 4)
                keeper.tell(NOUGHT, ("pour", pan, water, pair(worth(water) * worth(works[0]) / 2)))
            first, last = keeper.stand_at(NOUGHT), keeper.stand_at(days_of(works[2]))
            for pan, one, other in zip(works[1], first, last):
                self.assertEqual(clamped(clamp_of(pan, works[2]), water_of(one)), water_of(other))


class Many(Cases):
    def step(self, rng, keeper, entries, works):
        """Tells one deed, and what the whole of it, done from 0 on, says of it."""
        moment, deed = some_told(rng, works, keeper.stand_at)
        number = max((entry[1] for entry in entries), default=-1) + 1
        new = entries + [(moment, number, deed)]
        found = kept_otherwise(works, new, pair(sum(worth(days) for days, _ in works[2])))
        if isinstance(found[0], int):
            refusal = found[1] if found[0] == number else NoLater
            caught = self.refused(refusal, keeper.tell, moment, deed)
            self.assertEqual(getattr(caught, "number", number), found[0])
            return entries, refusal
        self.assertEqual(keeper.tell(moment, deed), number)
        return new, None

    def test_as_done_from_the_beginning(self):
        rng = rng_of(222)
        met = {}
        for _ in range(40):
            works = some_works(rng, 4, 4, 2)
            keeper, entries = Keeper(works), []
            for _ in range(14):
                entries, refusal = self.step(rng, keeper, entries, works)
                met[refusal] = met.get(refusal, 0) + 1
            order = sorted(entries, key=lambda one: (worth(one[0]), one[1]))
            self.assertEqual(keeper.deeds(), order)
            for moment in [some_moment(rng, works[2]) for _ in range(3)]:
                self.assertEqual((keeper.stand_at(moment), keeper.account_at(moment)), kept_otherwise(works, entries, moment))
                self.check_account(keeper, works, moment)
        for refusal in (None, NoLater, NoPan, NoWater, NoRoom):
            self.assertGreater(met.get(refusal, 0), 4, met)

    def test_dropped_as_without(self):
        rng = rng_of(223)
        met = {True: 0, False: 0}
        for _ in range(70):
            works = some_works(rng, 4, 4, 2)
            keeper, entries = Keeper(works), []
            for _ in range(10):
                entries, _ = self.step(rng, keeper, entries, works)
            for entry in list(entries):
                rest = [one for one in entries if one != entry]
                found = kept_otherwise(works, rest, days_of(works[2]))
                refused = isinstance(found[0], int)
                met[refused] += 1
                if refused:
                    self.assertEqual(self.refused(NoLater, keeper.drop, entry[1]).number, found[0])
                else:
                    keeper.drop(entry[1])
                    entries = rest
                    self.assertEqual((keeper.stand_at(days_of(works[2])), keeper.account_at(days_of(works[2]))), found)
        self.assertGreater(min(met.values()), 10, met)

    def test_in_whatever_order(self):
        deeds = (("pour", 0, (3, 1), HALF), ("pour", 1, ONE, (1, 3)), ("rake", 0), ("stir", 1), ("pour", 0, ONE, NOUGHT))
        moments = (NOUGHT, HALF, ONE, (5, 2), (3, 1))
        known = face(told(*zip(moments, deeds)))
        for order in permutations(range(5)):
            keeper = told(*((moments[at], deeds[at]) for at in order))
            self.assertEqual(face(keeper)[1:], known[1:])
            self.assertEqual([(moment, deed) for moment, _, deed in keeper.deeds()], list(zip(moments, deeds)))
            self.assertEqual([order[number] for _, number, _ in keeper.deeds()], list(range(5)))

    def test_sixty_deeds(self):
        works = (FULL, PANS + (((3, 2), (20, 1)),), WEATHER)
        rng = rng_of(224)
        pairs = []
        for at in range(60):
            moment = pair((at * 7919 % 60) * worth(END) / 59)
            pairs.append((moment, rng.choice((("pour", 2, (1, 7), (1, 30)), ("pour", 0, (1, 9), (1, 100)), ("stir", 2), ("rake", 0)))))
        keeper = told(*pairs, works=works)
        entries = [(moment, number, deed) for number, (moment, deed) in enumerate(pairs)]
        for moment in (ONE, (3, 1), END):
            self.assertEqual((keeper.stand_at(moment), keeper.account_at(moment)), kept_otherwise(works, entries, moment))
            self.check_account(keeper, works, moment)
        for _ in range(60):
            keeper.back()
        self.assertEqual(keeper.deeds(), [])
        self.refused(NoDeed, keeper.back)


if __name__ == "__main__":
    unittest.main()
