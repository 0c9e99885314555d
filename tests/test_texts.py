"""Fractions and brines written and read (14.1)."""

import unittest
from fractions import Fraction

from brineways.brines import is_brine
from brineways.errors import BrineError, NoText
from brineways.texts import brine_text, fraction_text, read_brine, read_fraction
from support import NOUGHT, great, layer, pair, rng_of, small, some_brine, some_full

FULL = (1, 3)
NO_FRACTIONS = (
    "", " ", "-", "/", "+1", "+", "-+1", "--1", "1-", "01", "00", "-01", "-0", "0/1", "0/2", "-0/2", "1/1", "7/1", "-7/1", "1/0", "0/0",
    "1/", "/2", "-/2", "1//2", "1/2/3", "1/-2", "-1/-2", "1/+2", "1/02", "01/2", "2/4", "-2/4", "6/3", "1000/10", " 1", "1 ", " 1/2", "1/2 ",
    "1 /2", "1/ 2", "1\n", "\n1", "1/2\n", "\n", "1.5", "1.", ".5", "1e3", "1_000", "1,5", "0x1", "a", "none", "1:2", "None", "one", "1/a", "(1, 2)",
    "~", "!", "1~", "1;2", "1|2", "1\\2", "0-1", "1 2",
)


class Fractions(unittest.TestCase):
    def test_by_hand(self):
        for one, text in (
            (NOUGHT, "0"), ((1, 1), "1"), ((-1, 1), "-1"), ((10, 1), "10"), ((1, 2), "1/2"), ((-1, 2), "-1/2"), ((7, 3), "7/3"),
            ((-10 ** 6, 999), "-1000000/999"), ((10 ** 6, 1), "1000000"), ((100, 101), "100/101"), ((-9, 10), "-9/10"),
        ):
            self.assertEqual(fraction_text(one), text)
            self.assertEqual(read_fraction(text), one)
            self.assertIs(type(fraction_text(one)), str)

    def test_there_and_back(self):
        rng = rng_of(421)
        for _ in range(200):
            for one in (small(rng), great(rng)):
                text = fraction_text(one)
                self.assertEqual(text, str(Fraction(*one)))
                self.assertEqual(read_fraction(text), one)
                self.assertEqual([type(part) for part in read_fraction(text)], [int, int])

    def test_four_hundred_figures_and_one(self):
        rng = rng_of(422)
        for many, told in ((1, True), (59, True), (60, True), (61, True), (120, True), (121, True), (399, True), (400, True), (401, False), (500, False)):
            top = rng.randint(10 ** (many - 1), 10 ** many - 1)
            for one in (pair(top), pair(-top), (1, top), (-1, top), (top, top + 1) if len(str(top + 1)) == many else pair(top)):
                text = fraction_text(one)
                self.assertEqual(text, str(Fraction(*one)))
                if told:
                    self.assertEqual(read_fraction(text), one)
                else:
                    self.refused(text)
        self.assertEqual(read_fraction("1" + "0" * 399), (10 ** 399, 1))
        self.refused("1" + "0" * 400)
        self.refused("0" * 401)
        self.refused("1/" + "3" * 401)

    def test_greater_ones_are_written(self):
        rng = rng_of(423)
        for many in (401, 1000, 3999, 4000):
            one = (10 ** many - 1, 10 ** (many - 1))
            self.assertEqual(fraction_text(one), "9" * many + "/1" + "0" * (many - 1))
            digits = "".join(str(rng.randint(1, 9)) for _ in range(many))
            self.assertEqual(fraction_text((-int(digits), 1)), "-" + digits)
            self.refused(fraction_text(one))

    def refused(self, text):
        with self.assertRaises(BrineError) as caught:
            read_fraction(text)
        self.assertIs(type(caught.exception), NoText, text)
        self.assertEqual((caught.exception.at, type(caught.exception.at)), (0, int), text)

    def test_every_other_text(self):
        for text in NO_FRACTIONS:
            self.refused(text)

    def test_all_short_texts(self):
        signs = "0129-/ :n"
        texts = [""]
        for _ in range(4):
            texts = [text + sign for text in texts for sign in signs]
            for text in texts:
                self.check_text(text)

    def check_text(self, text):
        """Read just where it is what Python's own fractions write."""
        try:
            one = Fraction(text)
        except (ValueError, ZeroDivisionError):
            one = None
        if one is not None and str(one) == text:
            self.assertEqual(read_fraction(text), pair(one))
        else:
            self.refused(text)

    def test_long_texts(self):
        for text in ("1" * 4000, "-" * 4000, " " * 4000, "1/2 " * 1000, "0" * 4000, "~" * 4000):
            self.refused(text)


class Brines(unittest.TestCase):
    def test_by_hand(self):
        for brine, text in (
            ((), "none"), ((layer(3, 1),), "3:1"), ((layer(0, 2),), "0:2"), ((layer(7, 0),), "7:0"),
            ((layer(0, "1/2"), layer(3, 1), layer("5/2", "1/2"), layer(7, 0)), "0:1/2 3:1 5/2:1/2 7:0"),
        ):
            self.assertEqual(brine_text(brine), text)
            self.assertEqual(read_brine(FULL, text), brine)

    def test_there_and_back(self):
        rng = rng_of(424)
        for _ in range(150):
            full = some_full(rng)
            brine = some_brine(rng, full)
            text = brine_text(brine)
            self.assertEqual(read_brine(full, text), brine)
            self.assertEqual(text.split(" ") if brine else text, [f"{Fraction(*one)}:{Fraction(*other)}" for one, other in brine] or "none")

    def test_great_layers(self):
        water = 10 ** 400 - 1
        self.assertEqual(read_brine(FULL, f"{water}:1"), ((pair(water), (1, 1)),))
        self.refused(f"{water + 1}:1", 0)
        self.refused(f"3:1 {water + 1}:1", 1)
        self.assertEqual(brine_text(((pair(10 ** 3999), NOUGHT),)), "1" + "0" * 3999 + ":0")

    def test_long_ones(self):
        brine = tuple(layer(k, 1) for k in range(3, 403))
        self.assertEqual(read_brine(FULL, brine_text(brine)), brine)

    def refused(self, text, at, full=FULL):
        with self.assertRaises(BrineError) as caught:
            read_brine(full, text)
        self.assertIs(type(caught.exception), NoText, text)
        self.assertEqual((caught.exception.at, type(caught.exception.at)), (at, int), text)

    def test_words_that_are_no_layers(self):
        for word in NO_FRACTIONS:
            if " " not in word and "\n" not in word:
                for text, at in ((word + ":0", 0), ("3:" + word, 0), ("3:1 " + word + ":0", 1), ("3:1 9:" + word, 1), ("3:1 9:1 7:" + word + " 1:0", 2)):
                    self.refused(text, at)
        for word in ("3", "3:1:1", ":", "::", "3:", ":1", "3;1", "3::1", "3/1", "0:0", "-3:1", "3:-1", "-1:0", "0:-1", "3:1\n", "\n3:1", "3\n:1", "3:1~"):
            self.refused(word, 0)
            self.refused("3:1 " + word, 1)
            self.refused("0:1 3:1 " + word + " x", 2)

    def test_blanks(self):
        for text, at in (("", 0), (" ", 0), ("  ", 0), (" 3:1", 0), ("3:1 ", 1), ("3:1  9:1", 1), ("3:1 9:1 ", 2), ("3:1 9:1  ", 2), ("none ", 0),
                         (" none", 0), (" none ", 0), ("3:1\n9:1", 0), ("3:1 9:1\n", 1), ("\n", 0)):
            self.refused(text, at)

    def test_too_strong(self):
        self.assertEqual(read_brine(FULL, "3:1"), (layer(3, 1),))
        self.refused("3:1001/1000", 0)
        self.refused("0:7 2999/1000:1", 1)
        self.assertEqual(read_brine((1, 2), "2:1"), (layer(2, 1),))
        self.refused("2:1", 0)

    def test_out_of_order(self):
        for text, at in (("9:1 3:1", 1), ("3:1 3:1", 1), ("3:1 6:2", 1), ("0:1 0:1", 1), ("3:1 0:1", 1), ("7:0 0:1", 1), ("7:0 9:1", 1), ("7:0 7:0", 1),
                         ("3:1 9:1 8:1", 2), ("3:1 9:1 18:2 7:0", 2), ("3:1 9:1 7:0 1:0", 3), ("9:1 3:1 x", 1), ("9:1 x 3:1", 1)):
            self.refused(text, at)

    def test_none_with_others(self):
        for text, at in (("none none", 0), ("none 3:1", 0), ("3:1 none", 1), ("3:1 9:1 none", 2), ("None", 0), ("NONE", 0), ("non", 0), ("nones", 0),
                         ("none:0", 0), ("none\n", 0)):
            self.refused(text, at)

    def test_rows_of_words(self):
        rng = rng_of(425)
        words = ("3:1", "4:1", "5:1", "0:2", "7:0", "6:2", "", "none", "1:1", "2/4:0", "1/2:0")
        for _ in range(600):
            row = [rng.choice(words) for _ in range(rng.randint(1, 5))]
            self.check_row(row)

    def check_row(self, row):
        """Read just so far as the words ahead make a brine."""
        layers = []
        for at, word in enumerate(row):
            try:
                water, salt = word.split(":")
                one = layer(water, salt) if (water, salt) == (str(Fraction(water)), str(Fraction(salt))) else None
            except ValueError:
                one = None
            if one is None or not is_brine(FULL, tuple(layers) + (one,)):
                if row == ["none"]:
                    self.assertEqual(read_brine(FULL, "none"), ())
                else:
                    self.refused(" ".join(row), at)
                return
            layers.append(one)
        self.assertEqual(read_brine(FULL, " ".join(row)), tuple(layers))


if __name__ == "__main__":
    unittest.main()
