"""Plans: shares of lots for pans that give most salt, with prices that show it."""

from brineways.brims import rim_of
from brineways.brines import is_strength, need
from brineways.errors import NoPlan
from brineways.fits import best_fit, fit_worth, prices_bound
from brineways.fractions import NOUGHT, ONE, is_less, is_positive, less
from brineways.rooms import comes, is_lot
from brineways.spells import is_weather
from brineways.works import are_pans

MOST_PANS_OF_FIELD = 2
MOST_SPELLS_OF_FIELD = 3
MOST_LOTS = 3


def are_lots(full, weather, thing):
    """Whether anything is the lots of a field."""
    if not isinstance(thing, tuple) or len(thing) > MOST_LOTS:
        return False
    return all([is_lot(full, weather, lot) for lot in thing])


def is_field(thing):
    """Whether anything is a field."""
    if not isinstance(thing, tuple) or len(thing) != 5:
        return False
    full, strength, pans, weather, lots = thing
    if not is_positive(full) or not is_strength(full, strength):
        return False
    if not are_pans(pans, MOST_PANS_OF_FIELD) or not is_weather(weather):
        return False
    return len(weather) <= MOST_SPELLS_OF_FIELD and are_lots(full, weather, lots)


def check_field(field):
    """Refuses anything that is no field."""
    if not is_field(field):
        raise NoPlan("this is no field")


def lot_lines(pans, lots):
    """For each lot: its shares are at most 1."""
    lines = []
    for at in range(len(lots)):
        numbers = [ONE if other == at else NOUGHT for other in range(len(lots)) for pan in pans]
        lines.append((tuple(numbers), ONE))
    return lines


def spread(amounts, pans, at):
    """An amount for each lot, at the places of one pan."""
    return tuple([
        amount if other == at else NOUGHT for amount in amounts for other in range(len(pans))
    ])


def strong_lines(field, at):
    """That a pan is at the end at least so strong, whichever turn it is dry at last."""
    full, strength, pans, weather, lots = field
    needs = [need(full, (lot[1:],), strength) for lot in lots]
    end = len(weather)
    lines = []
    for begin in range(end):
        later = [one if lot[0] >= begin else NOUGHT for lot, one in zip(lots, needs)]
        bound = less(NOUGHT, comes(pans[at][0], weather, begin, end))
        lines.append((spread(later, pans, at), bound))
    return lines


def rim_lines(field, at):
    """That a pan never has more water than its rim, whichever turn it is dry at last."""
    full, strength, pans, weather, lots = field
    turns = list(range(len(weather) + 1))
    lines = []
    for begin, end in [(one, other) for one in turns for other in turns if one <= other]:
        water = [lot[1] if begin <= lot[0] <= end else NOUGHT for lot in lots]
        bound = less(rim_of(pans[at]), comes(pans[at][0], weather, begin, end))
        lines.append((spread(water, pans, at), bound))
    return lines


def lines_of(field):
    """The lines of a field, in the order that the document tells."""
    check_field(field)
    pans, lots = field[2], field[4]
    lines = lot_lines(pans, lots)
    for at in range(len(pans)):
        lines += strong_lines(field, at) + rim_lines(field, at)
    return tuple(lines)


def gains_of(field):
    """The salt of each lot, at each of its places."""
    return tuple([lot[2] for lot in field[4] for pan in field[2]])


def best_plan(field):
    """The most salt, a plan that gives it, and prices that show it; or None by rain alone."""
    lines = lines_of(field)
    if any([is_less(bound, NOUGHT) for numbers, bound in lines]):
        return None
    return best_fit(gains_of(field), lines)


def plan_salt(field, thing):
    """The salt of a plan, or None where a row is no plan."""
    lines = lines_of(field)
    return fit_worth(gains_of(field), lines, thing)


def prices_salt(field, thing):
    """The sum of bounds times prices, or None where a row is no prices for a field's lines."""
    lines = lines_of(field)
    return prices_bound(gains_of(field), lines, thing)
