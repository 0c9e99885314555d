"""Brines: rows of layers (water, salt), the strongest first, and their needs."""

from brineways.errors import NoBrine, NoFraction, NoStrength
from brineways.fractions import (
    NOUGHT, ONE, is_fraction, is_less, is_positive, less, over, plus, rising, summed, times,
)


def is_strength(full, thing):
    """Whether anything is a strength above 0 and at most full."""
    return is_positive(thing) and not is_less(full, thing)


def is_layer(full, thing):
    """Whether anything is a layer for a full strength."""
    if not isinstance(thing, tuple) or len(thing) != 2:
        return False
    water, salt = thing
    if not is_fraction(water) or not is_fraction(salt):
        return False
    if is_less(water, NOUGHT) or is_less(salt, NOUGHT):
        return False
    if water == NOUGHT:
        return salt != NOUGHT
    return not is_less(times(full, water), salt)


def is_wet(full, water, salt):
    """Whether two things are the water and the salt of a layer that has water."""
    return is_layer(full, (water, salt)) and water != NOUGHT


def is_beneath(one, other):
    """Whether one layer stands beneath another, stronger than it."""
    # Across and not by strengths, which fallen salt has none of: so it stands
    # beneath each layer with water, and beneath no fallen salt.
    return is_less(times(other[1], one[0]), times(one[1], other[0]))


def is_brine(full, thing):
    """Whether anything is a brine for a full strength."""
    if not isinstance(thing, tuple):
        return False
    if not all([is_layer(full, layer) for layer in thing]):
        return False
    return all([is_beneath(one, other) for one, other in zip(thing, thing[1:])])


def strength_of(layer):
    """The strength of a layer, or None of fallen salt."""
    water, salt = layer
    return None if water == NOUGHT else over(salt, water)


def gathered(layers):
    """Layers, all for one full, laid to a brine."""
    sums = {}
    for layer in layers:
        water, salt = sums.get(strength_of(layer), (NOUGHT, NOUGHT))
        sums[strength_of(layer)] = (plus(water, layer[0]), plus(salt, layer[1]))
    fallen = [sums[None]] if None in sums else []
    order = rising([strength for strength in sums if strength is not None])
    return tuple(fallen + [sums[strength] for strength in order[::-1]])


def laid(full, layers):
    """The brine that a row of layers makes."""
    for layer in layers:
        if not is_layer(full, layer):
            raise NoBrine("something in the row is no layer for the full strength")
    return gathered(layers)


def joined(one, other):
    """The brine of all layers of two brines."""
    return gathered(one + other)


def so_often(brine, many):
    """A brine with each layer so many times, by a fraction from 0 on."""
    if many == NOUGHT:
        return ()
    return tuple([(times(water, many), times(salt, many)) for water, salt in brine])


def share_of(brine, part):
    """So much of each layer of a brine, by a fraction from 0 to 1."""
    if is_less(part, NOUGHT) or is_less(ONE, part):
        raise NoFraction("a share is from 0 to 1")
    return so_often(brine, part)


def water_of(brine):
    """All water of a brine."""
    return summed([water for water, salt in brine])


def salt_of(brine):
    """All salt of a brine, fallen salt counted."""
    return summed([salt for water, salt in brine])


def fallen_of(brine):
    """The fallen salt of a brine."""
    return summed([salt for water, salt in brine if water == NOUGHT])


def dissolved_of(brine):
    """The layers of a brine that have water."""
    return tuple([layer for layer in brine if layer[0] != NOUGHT])


def weakest(brine):
    """The least strength of a brine's dissolved layers, or None."""
    layers = dissolved_of(brine)
    return strength_of(layers[-1]) if layers else None


def strongest(brine):
    """The greatest strength of a brine's dissolved layers, or None."""
    layers = dissolved_of(brine)
    return strength_of(layers[0]) if layers else None


def strengths(brine):
    """The strengths above 0 of a brine's dissolved layers, rising."""
    salty = [layer for layer in dissolved_of(brine) if layer[1] != NOUGHT]
    return tuple([strength_of(layer) for layer in salty[::-1]])


def needs_for(brine, some):
    """A brine's needs for a rising row of strengths above 0."""
    # One walk for all of them: a layer that is weaker than one strength is
    # weaker than each later one, so what it adds is summed but once.
    layers = dissolved_of(brine)[::-1]
    at = 0
    water = NOUGHT
    salt = NOUGHT
    needs = []
    for strength in some:
        while at < len(layers) and is_less(strength_of(layers[at]), strength):
            water = plus(water, layers[at][0])
            salt = plus(salt, layers[at][1])
            at += 1
        needs.append(less(water, over(salt, strength)))
    return tuple(needs)


def need(full, brine, strength):
    """How much water must go till none of a brine is weaker than a strength."""
    if not is_strength(full, strength):
        raise NoStrength("a strength is above 0 and at most full")
    return needs_for(brine, (strength,))[0]


def alike_by_needs(full, one, other):
    """Whether two brines for one full have the same water, salt and needs."""
    if water_of(one) != water_of(other) or salt_of(one) != salt_of(other):
        return False
    asked = rising((full,) + strengths(one) + strengths(other))
    return needs_for(one, asked) == needs_for(other, asked)
