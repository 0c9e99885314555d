"""Brine drawn from beneath, skimmed from above, and stirred."""

from brineways.brines import dissolved_of, salt_of, strength_of, water_of
from brineways.errors import NoStrength, NoWater
from brineways.fractions import NOUGHT, greatest, is_less, least, less, over, plus, summed, times


def is_there(brine, water):
    """Whether an amount of water is from 0 to all that a brine has."""
    return not is_less(water, NOUGHT) and not is_less(water_of(brine), water)


def check_there(brine, water):
    """Refuses an amount of water that a brine does not have."""
    if not is_there(brine, water):
        raise NoWater("so much water is not there")


def portion(layer, water):
    """So much water of a layer, with its salt."""
    return (water, times(layer[1], over(water, layer[0])))


def parted(layers, water):
    """Layers with water, parted in two: so much water from the first one on, and the rest."""
    taken = []
    left = []
    for layer in layers:
        part = least((water, layer[0]))
        rest = less(layer[0], part)
        water = less(water, part)
        if part != NOUGHT:
            taken.append(portion(layer, part))
        if rest != NOUGHT:
            left.append(portion(layer, rest))
    return (tuple(taken), tuple(left))


def fallen_layers(brine):
    """The fallen salt of a brine, as a brine."""
    return tuple([layer for layer in brine if layer[0] == NOUGHT])


def drawn(brine, water):
    """So much water drawn from beneath: what is taken, and what is left."""
    check_there(brine, water)
    taken, left = parted(dissolved_of(brine), water)
    return (taken, fallen_layers(brine) + left)


def skimmed(brine, water):
    """So much water skimmed from above: what is taken, and what is left."""
    check_there(brine, water)
    taken, left = parted(dissolved_of(brine)[::-1], water)
    return (taken[::-1], fallen_layers(brine) + left[::-1])


def may_take(brine, water, salt):
    """Whether some taking of so much water has just so much salt."""
    if not is_there(brine, water):
        return False
    # What lies between two takings is a taking, too: a share of each.
    least_salt = salt_of(skimmed(brine, water)[0])
    most_salt = salt_of(drawn(brine, water)[0])
    return not is_less(salt, least_salt) and not is_less(most_salt, salt)


def bound_by(brine, water, strength):
    """The bound by a strength: no taking of so much water has more salt."""
    check_there(brine, water)
    if is_less(strength, NOUGHT):
        raise NoStrength("a bound is by a strength from 0 on")
    beyond = [less(salt, times(strength, held)) for held, salt in dissolved_of(brine)]
    return plus(times(strength, water), summed([greatest((NOUGHT, one)) for one in beyond]))


def least_bound(full, brine, water):
    """The least bound, and the strength by which it comes."""
    taken = drawn(brine, water)[0]
    return (salt_of(taken), strength_of(taken[-1]) if taken else full)


def stirred(brine):
    """A brine whose dissolved layers are one layer."""
    layers = dissolved_of(brine)
    if not layers:
        return brine
    return fallen_layers(brine) + ((water_of(layers), salt_of(layers)),)
