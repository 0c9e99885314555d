"""Sun and rain: how a brine is dried, and how rain lies on top."""

from brineways.brines import (
    dissolved_of, fallen_of, is_brine, needs_for, salt_of, strength_of, strengths, water_of, weakest,
)
from brineways.errors import NoWater
from brineways.fractions import (
    NOUGHT, greatest, is_fraction, is_less, least, less, over, plus, rising, times,
)


def check_not_below(water):
    """Refuses an amount of water below 0."""
    if is_less(water, NOUGHT):
        raise NoWater("an amount of water is from 0 on")


def weakest_pool(full, layers, water):
    """The layers, weakest first, that drying makes one: how many, their water and their salt."""
    pool_water = NOUGHT
    pool_salt = NOUGHT
    for at, layer in enumerate(layers):
        pool_water = plus(pool_water, layer[0])
        pool_salt = plus(pool_salt, layer[1])
        ahead = strength_of(layers[at + 1]) if at + 1 < len(layers) else full
        if is_less(water, less(pool_water, over(pool_salt, ahead))):
            return (at + 1, pool_water, pool_salt)
    return (len(layers), pool_water, pool_salt)


def dried(full, brine, water):
    """What drying by water leaves of a brine, and how much water went."""
    check_not_below(water)
    layers = dissolved_of(brine)[::-1]
    many, pool_water, pool_salt = weakest_pool(full, layers, water)
    # Only where the pool is all that is dissolved can water be more than it has.
    went = least((water, pool_water))
    left = less(pool_water, went)
    kept_salt = least((pool_salt, times(full, left)))
    fallen = plus(fallen_of(brine), less(pool_salt, kept_salt))
    row = ((NOUGHT, fallen),) + layers[many:][::-1] + ((left, kept_salt),)
    return (tuple([layer for layer in row if layer != (NOUGHT, NOUGHT)]), went)


def rained(brine, water):
    """A brine with rain water on top of it."""
    check_not_below(water)
    if water == NOUGHT:
        return brine
    if weakest(brine) == NOUGHT:
        return brine[:-1] + ((plus(brine[-1][0], water), NOUGHT),)
    return brine + ((water, NOUGHT),)


def lessened(some, by):
    """Fractions less another one, nought where that is below 0."""
    return tuple([greatest((NOUGHT, less(one, by))) for one in some])


def has_dried_needs(full, brine, row, went):
    """Whether a row has the needs that a brine is left with where so much water went."""
    asked = rising((full,) + strengths(brine) + strengths(row))
    if needs_for(row, asked) != lessened(needs_for(brine, asked), went):
        return False
    lowest = weakest(row)
    if lowest is None or lowest == NOUGHT or not is_less(lowest, full):
        return True
    return needs_for(brine, (lowest,)) == (went,)


def dried_right(full, brine, water, thing):
    """Whether anything is what drying a brine by water tells, by its sums and needs alone."""
    check_not_below(water)
    if not isinstance(thing, tuple) or len(thing) != 2:
        return False
    row, went = thing
    if not is_brine(full, row) or not is_fraction(went):
        return False
    if went != least((water, water_of(brine))) or salt_of(row) != salt_of(brine):
        return False
    if water_of(row) != less(water_of(brine), went):
        return False
    return has_dried_needs(full, brine, row, went)
