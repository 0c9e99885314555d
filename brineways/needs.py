"""Needs over time: what came, since when, the peak, and papers that show a need."""

from brineways.brines import need
from brineways.fractions import NOUGHT, greatest, is_less, least, plus
from brineways.spells import (
    brought, check_moment, check_moments, is_moment, spells_between, strong_spans, turns_of, worths_at_turns,
)


def came_between(first, area, weather, begin, moment):
    """What came from a begin to a moment, where the need was so much at first."""
    came_since = brought(area, spells_between(weather, begin, moment))
    return plus(first, came_since) if begin == NOUGHT else came_since


def need_then(first, area, weather, moment):
    """The need at a moment, where it was so much at first."""
    return worths_at_turns(first, area, spells_between(weather, NOUGHT, moment))[-1]


def need_at(full, area, brine, weather, strength, moment):
    """The need at a moment."""
    first = need(full, brine, strength)
    check_moment(weather, moment)
    return need_then(first, area, weather, moment)


def since(full, area, brine, weather, strength, moment):
    """The last moment no later than a told one at which the need was 0, or None."""
    spans = strong_spans(full, area, brine, weather, strength)
    check_moment(weather, moment)
    for begin, end in spans[::-1]:
        if not is_less(moment, begin):
            return least((end, moment))
    return None


def came(full, area, brine, weather, strength, begin, moment):
    """What came from a begin to a moment."""
    first = need(full, brine, strength)
    check_moments(weather, begin, moment)
    return came_between(first, area, weather, begin, moment)


def best_begins(full, area, brine, weather, strength, moment):
    """All begins from which the most came to a moment, rising."""
    first = need(full, brine, strength)
    check_moment(weather, moment)
    begins = [turn for turn in turns_of(weather) if is_less(turn, moment)] + [moment]
    amounts = [came_between(first, area, weather, begin, moment) for begin in begins]
    most = greatest(amounts)
    return tuple([begin for begin, amount in zip(begins, amounts) if amount == most])


def peak(full, area, brine, weather, strength, one, other):
    """The greatest need between two moments, and the first moment at which it is."""
    first = need(full, brine, strength)
    check_moments(weather, one, other)
    # Within a spell the need only rises, only falls or stays: its greatest
    # stands first at one of both moments or at a turn between them.
    spells = spells_between(weather, one, other)
    worths = worths_at_turns(need_then(first, area, weather, one), area, spells)
    most = greatest(worths)
    return (most, plus(one, turns_of(spells)[worths.index(most)]))


def least_shown(full, area, brine, weather, strength, moment, thing):
    """Whether a pair (begin, number) shows that the need at a moment is no less than the number."""
    first = need(full, brine, strength)
    check_moment(weather, moment)
    begin, number = thing
    if not is_moment(weather, begin) or is_less(moment, begin):
        return False
    return not is_less(came_between(first, area, weather, begin, moment), number)


def most_shown(full, area, brine, weather, strength, thing):
    """Whether a row shows that the need at all days' end is no more than its last."""
    first = need(full, brine, strength)
    if len(thing) != len(weather) + 1 or is_less(thing[0], first):
        return False
    for at, spell in enumerate(weather):
        if is_less(thing[at + 1], plus(thing[at], brought(area, (spell,)))):
            return False
    return not any([is_less(one, NOUGHT) for one in thing])
