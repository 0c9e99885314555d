"""The desk: lines and their answers (14.2, with 1.1, 2.1, 10.1 to 10.3 and 11.2)."""

import unittest
from fractions import Fraction

from brineways import errors
from brineways.brines import need
from brineways.desk import Desk
from brineways.errors import (
    BrineError, NoDeed, NoGate, NoLater, NoLine, NoMoment, NoPan, NoRoom, NoStrength, NoWater, Weaker,
)
from brineways.keeper import Keeper
from brineways.ladders import openings
from brineways.texts import brine_text, read_brine
from otherwise import some_told, some_works
from support import NOUGHT, STRANGE, pair, rng_of, some_moment, worth

WORKS = "works 1/3 pans 2:5 1:4 weather 2:-1 1:3 1:0"        # Rims: 10, 4.
PARTS = ((1, 3), (((2, 1), (5, 1)), ((1, 1), (4, 1))), (((2, 1), (-1, 1)), ((1, 1), (3, 1)), ((1, 1), (0, 1))))
ASKED = ("deeds", "stand 0 0", "stand 1 0", "stand 4 1", "account 2", "account 4", "open 4 1/4", "need 3 1 1/3")
# Lines of the interface but for one word; most of them asked where there is a keeper.
GOOD = (
    "pour 1 0 1 1/4", "lead 1 0 1 1 under", "lead 1 0 1 1 over", "lead 1 0 1 1 under anyhow", "let 1 0 1", "rake 1 0", "stir 1 0",
    "drop 0", "back", "stand 1 0", "account 1", "need 1 0 1/4", "deeds", "open 1", "open 1 1/4", WORKS,
)


def told(*lines):
    desk = Desk()
    for line in (WORKS,) + lines:
        desk.say(line)
    return desk


def face(desk):
    """All that a desk answers to a few lines, or None where it has no keeper."""
    try:
        return [desk.say(line) for line in ASKED]
    except NoLine:
        return None


class Cases(unittest.TestCase):
    def answers(self, desk, *pairs):
        for line, answer in pairs:
            found = desk.say(line)
            self.assertEqual(found, answer, line)
            self.assertIs(type(found), str)

    def refused(self, desk, refusal, line):
        """Refused twice, and nothing is otherwise behind it."""
        before = face(desk)
        for _ in range(2):
            with self.assertRaises(BrineError) as caught:
                desk.say(line)
            self.assertIs(type(caught.exception), refusal, line)
        self.assertEqual(face(desk), before)
        return caught.exception


class Answers(Cases):
    def test_by_hand(self):
        self.answers(
            Desk(), (WORKS, "ok"), ("deeds", "none"), ("stand 0 0", "none"), ("account 0", "0 0 0 0 0 0 0 0"), ("stand 4 0", "6:0"),
            ("pour 0 0 4 1", "0"), ("stand 0 0", "4:1"), ("lead 1/2 0 1 3 under", "1"), ("stand 1/2 0", "none"), ("stand 1/2 1", "3:1"),
            ("stand 2 1", "0:1/2 3/2:1/2"), ("rake 2 1", "2"), ("account 2", "4 0 5/2 0 0 1 0 1/2"), ("need 3 1 1/3", "5/2"), ("need 2 1 1/3", "0"),
            ("stand 3 1", "3/2:1/2 5/2:0"), ("stir 3 1", "3"), ("stand 3 1", "4:1/2"), ("let 3 1 1/7", "4"), ("stand 4 1", "27/7:27/56"),
            ("account 4", "4 9 5/2 1/2 1/7 1 1/56 1/2"), ("deeds", "0 1 2 3 4"), ("pour 1 0 1 0", "5"), ("deeds", "0 1 5 2 3 4"),
            ("drop 3", "ok"), ("deeds", "0 1 5 2 4"), ("back", "ok"), ("back", "ok"), ("deeds", "0 1 2 3 4"), ("let 4 0 1", "5"),
        )

    def test_leadings(self):
        self.answers(
            told("pour 0 0 4 1", "pour 0 1 1 1/3"), ("lead 0 0 1 1 under anyhow", "2"), ("lead 0 1 0 1/2 over", "3"), ("lead 0 1 0 1/2 under anyhow", "4"),
            ("lead 0 0 1 1/2 over anyhow", "5"), ("stand 0 1", "1/2:1/6 1:1/4"), ("deeds", "0 1 2 3 4 5"),
        )

    def test_openings(self):
        desk = told("pour 0 0 4 1", "pour 1 1 1 0")
        self.answers(desk, ("open 4 1/4", "0:0"), ("open 0 1/4", "0:0"), ("open 4 1/3", "1/2:0"), ("open 499/1000 1/3", "none"), ("open 1/2 1/3", "1/2:0"))
        self.answers(told("pour 0 0 4 1", "pour 0 1 1 0"), ("open 4 1/3", "1:0"), ("open 4 1/4", "1:0"), ("open 999/1000 1/4", "none"))
        one_pan = Desk()
        self.answers(one_pan, ("works 1/3 pans 1:1 weather 1:0", "ok"), ("open 1", "none"), ("open 0", "none"))
        three = Desk()
        self.answers(three, ("works 1/3 pans 1:9 1:9 1:9 weather 6:-1", "ok"), ("pour 0 0 8 1", "0"), ("open 6 1/5 1/4", "3:0 4:1"), ("open 3 1/5 1/4", "3:0"))

    def test_openings_begin_behind_the_deeds_of_moment_0(self):
        desk = told("pour 0 0 4 1", "let 0 0 1", "pour 1/1000 0 1 0")
        self.answers(desk, ("open 0 1/4", "0:0"), ("open 4 1/3", "3/8:0"))

    def test_a_new_works_line_is_a_new_keeper(self):
        desk = told("pour 0 0 4 1", "stir 1 0")
        self.answers(desk, ("works 1/2 pans 1:1 weather 1:1", "ok"), ("deeds", "none"), ("stand 1 0", "1:0"), ("pour 0 0 1 1/2", "0"))
        with self.assertRaises(NoPan):
            desk.say("stand 0 1")
        desk.say("back")
        with self.assertRaises(NoDeed):
            desk.say("back")
        self.answers(desk, (WORKS, "ok"), ("stand 4 1", "3:0"), ("pour 0 1 1 1/3", "0"))

    def test_works_of_all_sizes(self):
        for pans in range(1, 6):
            for spells in (1, 5, 12):
                self.answers(Desk(), ("works 1/3 pans" + " 1/2:7" * pans + " weather" + " 1/3:-1/5" * spells, "ok"), (f"stand {Fraction(spells, 3)} {pans - 1}", "none"))
        self.answers(Desk(), ("works 1000000 pans 1/1000:999999/1000 weather 1000000:-1000000", "ok"), ("stand 1000000 0", "none"))

    def test_two_side_by_side(self):
        one, other = told(), Desk()
        self.answers(one, ("pour 0 0 4 1", "0"))
        self.refused(other, NoLine, "deeds")
        self.answers(other, (WORKS, "ok"), ("deeds", "none"), ("pour 0 1 1 0", "0"), ("pour 0 1 1 0", "1"))
        self.answers(one, ("deeds", "0"), ("stand 0 1", "none"), ("back", "ok"), ("deeds", "none"))
        self.answers(other, ("deeds", "0 1"), ("stand 0 1", "2:0"))

    def test_great_fractions_are_written(self):
        desk = Desk()
        self.answers(desk, ("works 1/3 pans 997/991:1000000 991/983:1000000 weather 1:-1/977 1:-1/971", "ok"))
        for at in range(46):
            desk.say(f"pour {Fraction(at, 100 + at)} 0 {Fraction(1001, 907 + 2 * at)} {Fraction(1, 709 + 2 * at)}")
        desk.say("stir 2 0")
        answer = desk.say("stand 2 0")
        self.assertEqual(brine_text(read_brine((1, 3), answer)), answer)
        self.assertGreater(max(len(figures) for figures in answer.replace("/", " ").replace(":", " ").split()), 60)


class Lines(Cases):
    def desks(self):
        return Desk(), told("pour 0 0 4 1", "stir 1 0", "rake 1 1")

    def test_no_keeper_yet(self):
        for line in GOOD[:-1]:
            self.refused(Desk(), NoLine, line)

    def test_anything_that_is_no_text(self):
        for desk in self.desks():
            for thing in STRANGE + (["deeds"], ("deeds",), b"deeds", {"deeds": 1}, 7, None, True):
                if not isinstance(thing, str):
                    self.refused(desk, NoLine, thing)

    def test_other_words(self):
        for desk in self.desks():
            for line in ("", " ", "  ", "deed", "Deeds", "DEEDS", "deeds\n", "\ndeeds", "deeds\t", "pours 1 0 1 0", "ok", "none", "tell 1 0", "0", "keeper", "~"):
                self.refused(desk, NoLine, line)

    def test_too_many_and_too_few(self):
        for desk in self.desks():
            for line in GOOD:
                words = line.split(" ")
                for more in ("0", "1", "anyhow", "x", "under", "1/2", "1:1", ""):
                    fits = (words[0] == "open" and more in ("0", "1", "1/2")) or (line.startswith("lead") and len(words) == 6 and more == "anyhow")
                    if not fits and not (words[0] == "works" and more == "1:1"):
                        self.refused(desk, NoLine, line + " " + more)
                if len(words) > 1 and not line.endswith("anyhow") and words != ["open", "1", "1/4"] and words[0] != "works":
                    self.refused(desk, NoLine, " ".join(words[:-1]))

    def test_blanks(self):
        for desk in self.desks():
            for line in GOOD:
                for wrong in (" " + line, line + " ", line.replace(" ", "  ", 1), line.replace(" ", "\t", 1), line.replace(" ", "\n", 1), line + "\n"):
                    if wrong != line:
                        self.refused(desk, NoLine, wrong)

    def test_fractions(self):
        for desk in self.desks():
            for word in ("01", "-0", "1/1", "2/4", "1/0", "0/1", "+1", "1.0", "a", "", "1000001", "-1000001", "1/1001", "999999/1001", "1000001/7", "1" * 401,
                         "1" * 400, "1:1", "(1, 1)"):
                for line in ("pour {} 0 1 0", "pour 1 0 {} 0", "pour 1 0 1 {}", "lead {} 0 1 1 under", "lead 1 0 1 {} over anyhow", "let {} 0 1", "let 1 0 {}",
                             "rake {} 0", "stir {} 0", "stand {} 0", "account {}", "need {} 0 1/4", "need 1 0 {}", "open {}", "open {} 1/4", "open 1 {}",
                             "works {} pans 1:1 weather 1:1", "works 1/3 pans {}:1 weather 1:1", "works 1/3 pans 1:{} weather 1:1",
                             "works 1/3 pans 1:1 weather {}:1", "works 1/3 pans 1:1 weather 1:{}"):
                    self.refused(desk, NoLine, line.format(word))

    def test_small_ones_at_the_edge(self):
        desk = told()
        for line, refusal in (("pour 1000000 0 1 0", NoMoment), ("pour -1000000 0 1 0", NoMoment), ("pour 999999/1000 0 1 0", NoMoment), ("pour 1 0 1000000 0", NoRoom),
                              ("pour 1 0 -1000000 0", NoDeed), ("let 1 0 1/1000", NoWater), ("need 1 0 -1000000", NoStrength), ("open 1 1000000", NoGate)):
            self.refused(desk, refusal, line)

    def test_numbers(self):
        for desk in self.desks():
            for word in ("00", "01", "007", "-1", "-0", "+1", "1000", "0000", "1/2", "a", "", "1.", "99999", "1" * 400, "0:0", "3/1"):
                for line in ("pour 1 {} 1 0", "lead 1 {} 1 1 under", "lead 1 0 {} 1 under anyhow", "let 1 {} 1", "rake 1 {}", "stir 1 {}", "drop {}", "stand 1 {}",
                             "need 1 {} 1/4"):
                    self.refused(desk, NoLine, line.format(word))
        desk = told("pour 0 0 4 1")
        for word in ("2", "10", "99", "999"):
            self.refused(desk, NoPan, f"pour 1 {word} 1 0")
            self.refused(desk, NoPan, f"stand 1 {word}")
            self.refused(desk, NoPan, f"lead 1 0 {word} 1 under")
            self.refused(desk, NoDeed, f"drop {word}")

    def test_leading_words(self):
        for desk in self.desks():
            for words in ("", "Under", "above", "anyhow", "under under", "under Anyhow", "anyhow under", "under anyhow anyhow", "over x", "under true", "0", "under anyhow 1",
                          "under "):
                self.refused(desk, NoLine, "lead 1 0 1 1 " + words)

    def test_works_that_are_none(self):
        for desk in self.desks():
            for line in (
                "works", "works 1/3", "works 1/3 pans", "works 1/3 weather", "works 1/3 pans weather", "works 1/3 pans 1:1", "works 1/3 pans 1:1 weather",
                "works 1/3 pans weather 1:1", "works 1/3 weather 1:1 pans 1:1", "works pans 1:1 weather 1:1", "works 0 pans 1:1 weather 1:1", "works -1 pans 1:1 weather 1:1",
                "works 1/3 pans 0:1 weather 1:1", "works 1/3 pans 1:0 weather 1:1", "works 1/3 pans -1:1 weather 1:1", "works 1/3 pans 1:1 weather 0:1",
                "works 1/3 pans 1:1 weather -1:1", "works 1/3 pans 1 weather 1:1", "works 1/3 pans 1:1:1 weather 1:1", "works 1/3 pans 1:1 weather 1",
                "works 1/3 pans 1:1 weather 1:1:1", "works 1/3 pans 1:1 weather 1:1 weather 1:1", "works 1/3 pans pans 1:1 weather 1:1", "works 1/3 pans : weather 1:1",
                "works 1/3 pan 1:1 weather 1:1", "works 1/3 pans 1:1 weathers 1:1", "Works 1/3 pans 1:1 weather 1:1", "works 1/3 1:1 pans weather 1:1",
                "works weather pans 1:1", "works 1/3 pans 1:1 weather weather 1:1", "works 1/3" + " pans" + " 1:1" * 6 + " weather 1:1",
                "works 1/3 pans 1:1 weather" + " 1:1" * 13, "works 1/3 pans 1:1  weather 1:1", "works 1/3 pans 1:1 weather 1:1 ", "works 1/3 1/3 pans 1:1 weather 1:1",
            ):
                self.refused(desk, NoLine, line)


class Refusals(Cases):
    def test_as_the_stages_refuse(self):
        desk = told("pour 1 0 4 1", "pour 1 1 1 1/3")
        for line, refusal in (
            ("pour 5 0 1 0", NoMoment), ("pour -1 9 0 0", NoMoment), ("pour 1 0 0 0", NoDeed), ("pour 1 0 -1 0", NoDeed), ("pour 1 0 1 1/2", NoDeed), ("pour 1 9 1 1/2", NoDeed),
            ("pour 1 2 1 0", NoPan), ("pour 1 0 7 0", NoRoom), ("lead 1 0 0 1 under", NoPan), ("lead 1 0 1 0 under", NoDeed), ("lead 1 0 1 5 under", NoWater),
            ("lead 1 0 1 4 under", NoRoom), ("lead 1 0 1 1 under", Weaker), ("lead 5 0 1 1 under", NoMoment), ("let 1 0 5", NoWater), ("let 0 0 1", NoWater), ("let 1 9 5", NoPan),
            ("rake 1 2", NoPan), ("stir 1 2", NoPan), ("rake 5 2", NoMoment), ("drop 2", NoDeed), ("drop 999", NoDeed), ("stand 5 0", NoMoment), ("stand 1 2", NoPan),
            ("account 5", NoMoment), ("account -1/1000", NoMoment), ("need 1 0 0", NoStrength), ("need 1 0 1/2", NoStrength), ("need 1 0 -1", NoStrength),
            ("open 5 1/4", NoMoment), ("open 1", NoGate), ("open 1 1/4 1/4", NoGate), ("open 1 0", NoGate), ("open 1 1/2", NoGate), ("open 5", NoGate), ("open 5 1/2", NoGate),
        ):
            self.refused(desk, refusal, line)

    def test_in_the_told_order(self):
        desk = told()
        for line, refusal in (
            ("stand 5 9", NoMoment), ("stand 1 9", NoPan), ("need 5 9 9", NoMoment), ("need 1 9 9", NoPan), ("need 1 1 9", NoStrength), ("need 5 0 9", NoMoment),
            ("need 5 9 1/4", NoMoment), ("need 1 9 1/4", NoPan), ("stand 5 09", NoLine), ("need 5 9 09", NoLine), ("pour 5 9 1 01", NoLine), ("open 5 9 09", NoLine),
        ):
            self.refused(desk, refusal, line)

    def test_no_later(self):
        desk = told("pour 0 0 4 1", "let 1 0 2", "stir 2 0")
        self.assertEqual(self.refused(desk, NoLater, "let 0 0 1").number, 1)
        self.assertEqual(self.refused(desk, NoLater, "drop 0").number, 1)
        self.answers(desk, ("drop 1", "ok"), ("drop 0", "ok"), ("deeds", "2"), ("stir 0 0", "3"))

    def test_nothing_left_to_undo(self):
        desk = told("stir 0 0")
        self.answers(desk, ("back", "ok"))
        before = face(desk)
        for _ in range(2):
            with self.assertRaises(NoDeed):
                desk.say("back")
        self.assertEqual(face(desk), before)
        self.answers(desk, ("stir 0 0", "0"))


class Many(Cases):
    def line_of(self, moment, deed):
        """A deed as the line that tells it, or None where it has no such line."""
        word, *rest = deed
        if any(isinstance(part, int) and part < 0 for part in rest):
            return None
        words = [str(Fraction(*part)) if isinstance(part, tuple) else str(part) for part in rest if not isinstance(part, bool)]
        return " ".join([word, str(Fraction(*moment))] + words + (["anyhow"] if rest[-1] is True else []))

    def works_line(self, works):
        full, pans, weather = works
        pairs = [" ".join(f"{Fraction(*one)}:{Fraction(*other)}" for one, other in row) for row in (pans, weather)]
        return f"works {Fraction(*full)} pans {pairs[0]} weather {pairs[1]}"

    def is_small(self, thing):
        if isinstance(thing, tuple) and len(thing) == 2 and isinstance(thing[0], int):
            return abs(thing[0]) <= 10 ** 6 and thing[1] <= 1000
        return all(self.is_small(part) for part in thing) if isinstance(thing, tuple) else True

    def test_as_a_keeper(self):
        rng = rng_of(431)
        met = {}
        for _ in range(40):
            works = some_works(rng, 4, 4, 2)
            desk, keeper = Desk(), Keeper(works)
            self.answers(desk, (self.works_line(works), "ok"))
            for _ in range(14):
                moment, deed = some_told(rng, works, keeper.stand_at)
                line = self.line_of(moment, deed)
                if line is not None and self.is_small((moment, deed)):
                    refusal = self.both(desk, keeper, line, moment, deed)
                    met[refusal] = met.get(refusal, 0) + 1
            self.check_alike(rng, desk, keeper, works)
        for refusal in ("told", "NoWater", "NoRoom", "NoPan"):
            self.assertGreater(met.get(refusal, 0), 10, met)

    def both(self, desk, keeper, line, moment, deed):
        """Tells both, the desk and the keeper: they tell or refuse alike."""
        try:
            number = keeper.tell(moment, deed)
        except BrineError as refusal:
            with self.assertRaises(getattr(errors, type(refusal).__name__)) as caught:
                desk.say(line)
            self.assertEqual(getattr(caught.exception, "number", None), getattr(refusal, "number", None))
            return type(refusal).__name__
        self.assertEqual(desk.say(line), str(number))
        return "told"

    def check_alike(self, rng, desk, keeper, works):
        self.assertEqual(desk.say("deeds"), " ".join(str(number) for _, number, _ in keeper.deeds()) or "none")
        for moment in [one for one in (some_moment(rng, works[2]) for _ in range(4)) if self.is_small(one)]:
            at = Fraction(*moment)
            self.assertEqual(desk.say(f"account {at}"), " ".join(str(Fraction(*one)) for one in keeper.account_at(moment)))
            for pan, brine in enumerate(keeper.stand_at(moment)):
                self.assertEqual(desk.say(f"stand {at} {pan}"), brine_text(brine))
                strength = pair(worth(works[0]) / 2)
                self.assertEqual(desk.say(f"need {at} {pan} {Fraction(*strength)}"), str(Fraction(*need(works[0], brine, strength))))
            gates = tuple(pair(worth(works[0]) / 2) for _ in works[1][1:])
            row = openings(works, gates, keeper.stand_at(NOUGHT), moment)
            self.assertEqual(desk.say(" ".join([f"open {at}"] + [str(Fraction(*one)) for one in gates])),
                             " ".join(f"{Fraction(*one)}:{gate}" for one, gate in row) or "none")

    def test_parts_and_words(self):
        self.assertEqual(self.works_line(PARTS), WORKS)


if __name__ == "__main__":
    unittest.main()
