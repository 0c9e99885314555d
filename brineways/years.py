"""Years: weathers with inflows, what many of them leave, and when a brine settles."""

from brineways.brines import (
    dissolved_of, gathered, is_beneath, is_wet, joined, need, needs_for, salt_of, so_often, strengths, water_of,
)
from brineways.counts import check_many
from brineways.errors import NoMoment
from brineways.fractions import (
    NOUGHT, floor, greatest, is_fraction, is_less, less, over, plus, rising, times,
)
from brineways.spells import brought, check_moment, days_of, is_weather, spells_between, through

MOST_INFLOWS = 8


def is_inflow(full, thing):
    """Whether anything is an inflow, whatever the weather."""
    if not isinstance(thing, tuple) or len(thing) != 3:
        return False
    moment, water, salt = thing
    return is_fraction(moment) and is_wet(full, water, salt)


def is_year(full, thing):
    """Whether anything is a year for a full strength."""
    if not isinstance(thing, tuple) or len(thing) != 2:
        return False
    weather, inflows = thing
    if not is_weather(weather) or not isinstance(inflows, tuple) or len(inflows) > MOST_INFLOWS:
        return False
    if not all([is_inflow(full, inflow) for inflow in inflows]):
        return False
    moments = [NOUGHT] + [inflow[0] for inflow in inflows] + [days_of(weather)]
    return not any([is_less(later, ahead) for ahead, later in zip(moments, moments[1:])])


def led_through(full, area, brine, weather, inflows, until):
    """A brine at a moment, these inflows laid in at theirs."""
    now = NOUGHT
    for moment, water, salt in inflows:
        brine = through(full, area, brine, spells_between(weather, now, moment), None)[0]
        brine = joined(brine, ((water, salt),))
        now = moment
    return through(full, area, brine, spells_between(weather, now, until), None)[0]


def part_after(full, area, brine, year, moment):
    """A brine behind the part of a year to a moment."""
    weather, inflows = year
    check_moment(weather, moment)
    ahead = [inflow for inflow in inflows if is_less(inflow[0], moment)]
    return led_through(full, area, brine, weather, ahead, moment)


def year_after(full, area, brine, year):
    """A brine behind a whole year."""
    weather, inflows = year
    return led_through(full, area, brine, weather, inflows, days_of(weather))


def inflow_of(year):
    """All inflows of a year as one brine."""
    return gathered([(water, salt) for moment, water, salt in year[1]])


def brings(full, area, year, strength):
    """What a year brings to the need for a strength."""
    return plus(need(full, inflow_of(year), strength), brought(area, year[0]))


def brings_water(area, year):
    """What a year brings to the water."""
    return plus(water_of(inflow_of(year)), brought(area, year[0]))


def need_lines(brine, more):
    """A brine's needs, and so much more, as lines.

    The need for a strength is the greatest, over the lines (water, salt), of
    water - salt / strength: layers are added up from the weakest on as long as
    they are weaker than the strength.
    """
    lines = [(more, NOUGHT)]
    for water, salt in dissolved_of(brine)[::-1]:
        lines.append((plus(lines[-1][0], water), plus(lines[-1][1], salt)))
    return lines


def upper_lines(lines):
    """Of lines with one salt the one with the most water, by rising salt."""
    most = {}
    for water, salt in lines:
        if salt not in most or is_less(most[salt], water):
            most[salt] = water
    return [(most[salt], salt) for salt in rising(list(most))]


def layers_by_needs(full, lines):
    """The layers weaker than full, weakest first, whose needs are the greatest of all lines."""
    top, *others = upper_lines(lines)
    layers = [] if top[0] == NOUGHT else [top]
    for line in others:
        gap = (less(line[0], top[0]), less(line[1], top[1]))
        # A gap of the full strength or above stands beneath the top for every strength.
        if is_less(gap[1], times(full, gap[0])):
            while layers and not is_beneath(gap, layers[-1]):
                weaker = layers.pop()
                gap = (plus(gap[0], weaker[0]), plus(gap[1], weaker[1]))
            layers.append(gap)
            top = line
    return layers


def brine_by_needs(full, lines, water, salt):
    """The brine that has these needs, this water and this salt."""
    layers = layers_by_needs(full, lines)
    full_water = less(water, water_of(layers))
    full_salt = times(full, full_water)
    fallen = less(salt, plus(salt_of(layers), full_salt))
    row = [(NOUGHT, fallen), (full_water, full_salt)] + layers[::-1]
    return tuple([layer for layer in row if layer != (NOUGHT, NOUGHT)])


def years_brought(area, year, many):
    """The inflows of so many years, and what their weather brings."""
    return (so_often(inflow_of(year), (many, 1)), times((many, 1), brought(area, year[0])))


def gone(full, area, brine, year, many):
    """A brine behind so many years, which are not gone through."""
    check_many(many, 0)
    if many == 0:
        return brine
    fresh = year_after(full, area, (), year)
    inflow, rain = years_brought(area, year, many)
    later_inflow, later_rain = years_brought(area, year, many - 1)
    old = joined(brine, inflow)
    renewed = joined(fresh, later_inflow)
    lines = need_lines(old, rain) + need_lines(fresh, NOUGHT) + need_lines(renewed, later_rain)
    water = greatest((plus(water_of(old), rain), water_of(fresh), plus(water_of(renewed), later_rain)))
    return brine_by_needs(full, lines, water, salt_of(old))


def is_settled(full, area, brine, year):
    """Whether a year leaves a brine as it was but for fallen salt."""
    return dissolved_of(year_after(full, area, brine, year)) == dissolved_of(brine)


def years_till(first, behind, by):
    """How many years a need or a water takes till a year's own, where a year brings it so much."""
    # It is never above 0 here; of 0 the first year leaves what each later one does.
    if by == NOUGHT:
        return 0
    return -floor(over(less(first, behind), by))


def settles(full, area, brine, year):
    """The least number of years behind which a brine is settled, or None."""
    by_water = brings_water(area, year)
    if is_less(NOUGHT, by_water):
        return None
    if is_settled(full, area, brine, year):
        return 0
    fresh = year_after(full, area, (), year)
    inflow = inflow_of(year)
    rain = brought(area, year[0])
    # Between two of these strengths the years for one only rise or only fall.
    asked = rising((full,) + strengths(brine) + strengths(fresh) + strengths(inflow))
    by_needs = [plus(come, rain) for come in needs_for(inflow, asked)]
    waits = [1, years_till(water_of(brine), water_of(fresh), by_water)]
    for first, behind, by in zip(needs_for(brine, asked), needs_for(fresh, asked), by_needs):
        waits.append(years_till(first, behind, by))
    return max(waits)


def turned(year, moment):
    """A year that begins at a moment of it."""
    weather, inflows = year
    days = days_of(weather)
    if not is_less(NOUGHT, moment) or not is_less(moment, days):
        raise NoMoment("a year is turned to a moment between its begin and its end")
    rest = less(days, moment)
    later = [(less(at, moment), water, salt) for at, water, salt in inflows if not is_less(at, moment)]
    ahead = [(plus(at, rest), water, salt) for at, water, salt in inflows if is_less(at, moment)]
    spells = spells_between(weather, moment, days) + spells_between(weather, NOUGHT, moment)
    return (spells, tuple(later + ahead))
