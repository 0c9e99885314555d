"""Texts: fractions and brines written, and read again."""

from brineways.brines import is_beneath, is_layer
from brineways.errors import NoText
from brineways.fractions import is_fraction

FIGURES = "0123456789"
MOST_FIGURES = 400
CHUNK = 10 ** 60


def number_text(number):
    """A whole number from 0 on in figures."""
    # Python itself writes no number of very many figures at once.
    chunks = []
    while number >= CHUNK:
        number, rest = divmod(number, CHUNK)
        chunks.append(str(rest).zfill(60))
    return str(number) + "".join(chunks[::-1])


def fraction_text(one):
    """A fraction as it is written."""
    a, b = one
    sign = "-" if a < 0 else ""
    bottom = "" if b == 1 else "/" + number_text(b)
    return sign + number_text(abs(a)) + bottom


def brine_text(brine):
    """A brine as it is written."""
    words = [fraction_text(water) + ":" + fraction_text(salt) for water, salt in brine]
    return " ".join(words) if words else "none"


def is_number(word):
    """Whether a word writes a whole number from 0 on, in no more than 400 figures."""
    if not 1 <= len(word) <= MOST_FIGURES or (word[0] == "0" and word != "0"):
        return False
    return all([sign in FIGURES for sign in word])


def fraction_in(word):
    """The fraction that a word writes, or None."""
    top, slash, bottom = word.partition("/")
    if not is_number(top.removeprefix("-")) or (slash and not is_number(bottom)):
        return None
    one = (int(top), int(bottom) if slash else 1)
    # Written again: so nothing is read that is not written just so.
    return one if is_fraction(one) and fraction_text(one) == word else None


def read_fraction(text):
    """The fraction that a text writes."""
    one = fraction_in(text)
    if one is None:
        raise NoText(0)
    return one


def layer_in(word):
    """What a word writes as a layer: a pair of fractions or of None."""
    water, colon, salt = word.partition(":")
    return (fraction_in(water), fraction_in(salt))


def read_brine(full, text):
    """The brine for a full strength that a text writes."""
    if text == "none":
        return ()
    layers = []
    for at, word in enumerate(text.split(" ")):
        layer = layer_in(word)
        if not is_layer(full, layer) or (layers and not is_beneath(layers[-1], layer)):
            raise NoText(at)
        layers.append(layer)
    return tuple(layers)
