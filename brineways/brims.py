"""Pans and brims: brine in a pan, and what goes over its rim."""

from brineways.brines import water_of
from brineways.clamps import clamped, one_behind
from brineways.errors import NoRoom
from brineways.fractions import NOUGHT, is_less, is_positive, less, times
from brineways.spells import brought, check_moment, spans_of, spells_between, through


def is_pan(thing):
    """Whether anything is a pan."""
    if not isinstance(thing, tuple) or len(thing) != 2:
        return False
    area, depth = thing
    return is_positive(area) and is_positive(depth)


def rim_of(pan):
    """The water that a pan holds."""
    area, depth = pan
    return times(area, depth)


def spell_clamp(pan, spell):
    """The clamp by which a spell leads a pan's water."""
    return (brought(pan[0], (spell,)), NOUGHT, rim_of(pan))


def clamp_of(pan, weather):
    """The clamp by which a weather leads a pan's water."""
    clamp = spell_clamp(pan, weather[0])
    for spell in weather[1:]:
        clamp = one_behind(clamp, spell_clamp(pan, spell))
    return clamp


def check_room(pan, brine):
    """Refuses a brine of more water than a pan's rim."""
    if is_less(rim_of(pan), water_of(brine)):
        raise NoRoom("more water than the rim holds")


def brimmed(full, pan, brine, weather, moment):
    """The brine in a pan at a moment, and how much rained, went and went over till then."""
    check_room(pan, brine)
    check_moment(weather, moment)
    return through(full, pan[0], brine, spells_between(weather, NOUGHT, moment), rim_of(pan))


def brim_spans(pan, brine, weather):
    """The spans at which water stands at a pan's rim."""
    check_room(pan, brine)
    worths = [water_of(brine)]
    for spell in weather:
        worths.append(clamped(spell_clamp(pan, spell), worths[-1]))
    # All below nought: to be at least at the rim is then to be at most at it.
    below = [less(NOUGHT, worth) for worth in worths]
    return spans_of(less(NOUGHT, pan[0]), weather, below, less(NOUGHT, rim_of(pan)))
