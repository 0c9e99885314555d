"""The desk: lines told to a keeper, answered by texts."""

from brineways.brines import need
from brineways.errors import NoLine, NoPan
from brineways.fractions import NOUGHT
from brineways.keeper import Keeper
from brineways.ladders import openings
from brineways.texts import brine_text, fraction_in, fraction_text, is_number
from brineways.works import is_works

MOST_TOP = 10 ** 6
MOST_BOTTOM = 1000
MOST_NUMBER_FIGURES = 3


def small_in(word):
    """The small fraction that a word writes."""
    one = fraction_in(word)
    if one is None or abs(one[0]) > MOST_TOP or one[1] > MOST_BOTTOM:
        raise NoLine("a word that should be a small fraction is none")
    return one


def number_in(word):
    """The whole number, of one to three figures, that a word writes."""
    if len(word) > MOST_NUMBER_FIGURES or not is_number(word):
        raise NoLine("a word that should be a number is none")
    return int(word)


def pair_in(word):
    """The two small fractions that a word writes."""
    one, colon, other = word.partition(":")
    return (small_in(one), small_in(other))


def pairs_in(words):
    """The row of pairs that words write."""
    return tuple([pair_in(word) for word in words])


def works_in(words):
    """The works that the words behind `works` write."""
    if len(words) < 2 or words[1] != "pans" or "weather" not in words:
        raise NoLine("works are told with their pans and their weather")
    at = words.index("weather")
    works = (small_in(words[0]), pairs_in(words[2:at]), pairs_in(words[at + 1:]))
    if not is_works(works):
        raise NoLine("these are no works")
    return works


def values_in(words, kinds):
    """What words write: F a small fraction, N a number."""
    if len(words) != len(kinds):
        raise NoLine("too many words, or too few")
    return [small_in(word) if kind == "F" else number_in(word) for word, kind in zip(words, kinds)]


def lead_in(words):
    """What the words behind `lead` write."""
    anyhow = words[5:] == ["anyhow"]
    if len(words) != (6 if anyhow else 5) or words[4] not in ("under", "over"):
        raise NoLine("brine is led under or over, perhaps anyhow")
    return values_in(words[:4], "FNNF") + [words[4], anyhow]


KINDS = {
    "pour": "FNFF", "let": "FNF", "rake": "FN", "stir": "FN", "drop": "N", "back": "", "stand": "FN",
    "account": "F", "need": "FNF", "deeds": "",
}


def asked_in(words):
    """What a line's words write behind the first one."""
    word, *rest = words
    if word == "lead":
        return lead_in(rest)
    if word == "open":
        return values_in(rest, "F" * max(1, len(rest)))
    return values_in(rest, KINDS[word])


def deed_told(keeper, word, values):
    """Tells a deed: its number."""
    moment, *rest = values
    return str(keeper.tell(moment, (word, *rest)))


def deed_dropped(keeper, word, values):
    """Drops a deed by its number."""
    keeper.drop(values[0])
    return "ok"


def last_undone(keeper, word, values):
    """Undoes the last telling or dropping."""
    keeper.back()
    return "ok"


def brine_at(keeper, moment, pan):
    """The brine that stands in a pan at a moment."""
    stand = keeper.stand_at(moment)
    if pan >= len(stand):
        raise NoPan("there is no such pan")
    return stand[pan]


def stand_told(keeper, word, values):
    """The brine of a pan."""
    return brine_text(brine_at(keeper, values[0], values[1]))


def need_told(keeper, word, values):
    """The need of what stands in a pan."""
    moment, pan, strength = values
    return fraction_text(need(keeper.works[0], brine_at(keeper, moment, pan), strength))


def account_told(keeper, word, values):
    """The account till a moment."""
    return " ".join([fraction_text(one) for one in keeper.account_at(values[0])])


def deeds_told(keeper, word, values):
    """The numbers of the deeds in the order of doing."""
    return " ".join([str(number) for moment, number, deed in keeper.deeds()]) or "none"


def openings_told(keeper, word, values):
    """The openings to a moment, from the stand at moment 0 on."""
    row = openings(keeper.works, tuple(values[1:]), keeper.stand_at(NOUGHT), values[0])
    return " ".join([f"{fraction_text(moment)}:{gate}" for moment, gate in row]) or "none"


ANSWERS = {
    "pour": deed_told, "lead": deed_told, "let": deed_told, "rake": deed_told, "stir": deed_told,
    "drop": deed_dropped, "back": last_undone, "stand": stand_told, "account": account_told,
    "need": need_told, "deeds": deeds_told, "open": openings_told,
}


class Desk:
    """Has a keeper, at first none, and is told lines."""

    def __init__(self):
        self.keeper = None

    def say(self, line):
        """Answers a line by a text."""
        if not isinstance(line, str):
            raise NoLine("a line is a text")
        words = line.split(" ")
        if words[0] == "works":
            self.keeper = Keeper(works_in(words[1:]))
            return "ok"
        answer = ANSWERS.get(words[0])
        if answer is None:
            raise NoLine("no line begins so")
        values = asked_in(words)
        if self.keeper is None:
            raise NoLine("there is no keeper yet")
        return answer(self.keeper, words[0], values)
