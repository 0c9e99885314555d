"""Spells of sun and rain: what stands at a moment, and when a brine is strong or shallow."""

from brineways.brines import need, water_of
from brineways.errors import NoMoment, NoWater
from brineways.fractions import (
    NOUGHT, greatest, is_fraction, is_less, is_positive, least, less, over, plus, summed, times,
)
from brineways.sun import dried, rained

MOST_SPELLS = 12


def is_spell(thing):
    """Whether anything is a spell."""
    if not isinstance(thing, tuple) or len(thing) != 2:
        return False
    days, net = thing
    return is_positive(days) and is_fraction(net)


def is_weather(thing):
    """Whether anything is a weather."""
    if not isinstance(thing, tuple) or not 1 <= len(thing) <= MOST_SPELLS:
        return False
    return all([is_spell(spell) for spell in thing])


def days_of(weather):
    """All days of a weather together."""
    return summed([days for days, net in weather])


def is_moment(weather, moment):
    """Whether a fraction is a moment of a weather."""
    return not is_less(moment, NOUGHT) and not is_less(days_of(weather), moment)


def check_moment(weather, moment):
    """Refuses a fraction that is no moment of a weather."""
    if not is_moment(weather, moment):
        raise NoMoment("a moment is from 0 to all days of the weather")


def check_moments(weather, one, other):
    """Refuses two fractions that are no moments, or of which the second is less."""
    check_moment(weather, one)
    check_moment(weather, other)
    if is_less(other, one):
        raise NoMoment("the second moment is no less than the first")


def turns_of(weather):
    """The moment 0 and the end of each spell."""
    turns = [NOUGHT]
    for days, net in weather:
        turns.append(plus(turns[-1], days))
    return tuple(turns)


def spells_between(weather, one, other):
    """The spells from one moment to another, parted where a moment is amid one."""
    out = []
    begin = NOUGHT
    for days, net in weather:
        end = plus(begin, days)
        part = less(least((end, other)), greatest((begin, one)))
        if is_less(NOUGHT, part):
            out.append((part, net))
        begin = end
    return tuple(out)


def brought(area, spells):
    """What spells bring on an area: rain water less what the sun would take."""
    return times(area, summed([times(days, net) for days, net in spells]))


def fallen_by(area, weather, moment):
    """What a weather has brought on an area till a moment."""
    check_moment(weather, moment)
    return brought(area, spells_between(weather, NOUGHT, moment))


def through(full, area, brine, spells, rim):
    """A brine behind spells, and how much water rained, went, and went over a rim (None: over none)."""
    rain = NOUGHT
    lost = NOUGHT
    spilt = NOUGHT
    for spell in spells:
        amount = brought(area, (spell,))
        if is_less(amount, NOUGHT):
            brine, went = dried(full, brine, less(NOUGHT, amount))
            lost = plus(lost, went)
        else:
            kept = amount if rim is None else least((amount, less(rim, water_of(brine))))
            brine = rained(brine, kept)
            rain = plus(rain, amount)
            spilt = plus(spilt, less(amount, kept))
    return (brine, rain, lost, spilt)


def after(full, area, brine, weather, moment):
    """The brine at a moment, and how much water rained and went till then."""
    check_moment(weather, moment)
    return through(full, area, brine, spells_between(weather, NOUGHT, moment), None)[:3]


def worths_at_turns(first, area, spells):
    """What a need or a water, so much at first, is at 0 and at each spell's end."""
    worths = [first]
    for spell in spells:
        worths.append(greatest((NOUGHT, plus(worths[-1], brought(area, (spell,))))))
    return tuple(worths)


def span_within(begin, end, worth, rate, level):
    """When what goes by a rate a day, from a worth at begin, is at most a level, or None."""
    if is_less(rate, NOUGHT):
        start = less(begin, over(greatest((NOUGHT, less(worth, level))), rate))
        return None if is_less(end, start) else (start, end)
    if is_less(level, worth):
        return None
    if rate == NOUGHT:
        return (begin, end)
    return (begin, least((end, plus(begin, over(less(level, worth), rate)))))


def spans_of(area, weather, worths, level):
    """The spans at which what has these worths at a weather's turns is at most a level."""
    turns = turns_of(weather)
    spans = []
    for at, (days, net) in enumerate(weather):
        span = span_within(turns[at], turns[at + 1], worths[at], times(area, net), level)
        if span is not None and spans and spans[-1][1] == span[0]:
            spans[-1] = (spans[-1][0], span[1])
        elif span is not None:
            spans.append(span)
    return tuple(spans)


def strong_spans(full, area, brine, weather, strength):
    """The spans at which a brine is at least so strong."""
    worths = worths_at_turns(need(full, brine, strength), area, weather)
    return spans_of(area, weather, worths, NOUGHT)


def shallow_spans(area, brine, weather, water):
    """The spans at which no more water stands than told."""
    if is_less(water, NOUGHT):
        raise NoWater("an amount of water is from 0 on")
    return spans_of(area, weather, worths_at_turns(water_of(brine), area, weather), water)


def first_strong(full, area, brine, weather, strength, moment):
    """The first moment, from a told one on, at which a brine is at least so strong, or None."""
    spans = strong_spans(full, area, brine, weather, strength)
    check_moment(weather, moment)
    for begin, end in spans:
        if not is_less(end, moment):
            return greatest((begin, moment))
    return None
