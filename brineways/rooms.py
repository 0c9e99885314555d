"""Room in a pan: how often a lot may be poured into it."""

from brineways.brims import rim_of
from brineways.brines import is_wet, joined, need, so_often, water_of
from brineways.errors import NoLot
from brineways.fractions import NOUGHT, is_less, is_whole, less, over
from brineways.spells import brought, through


def is_lot(full, weather, thing):
    """Whether anything is a lot for a weather."""
    if not isinstance(thing, tuple) or len(thing) != 3:
        return False
    turn, water, salt = thing
    return is_whole(turn) and 0 <= turn < len(weather) and is_wet(full, water, salt)


def lot_need(full, weather, lot, strength):
    """The need of a lot, refused where it is none or the strength is none."""
    if not is_lot(full, weather, lot):
        raise NoLot("this is no lot for the weather")
    return need(full, (lot[1:],), strength)


def comes(area, weather, begin, end):
    """What comes from one turn to another."""
    return brought(area, weather[begin:end])


def bounds_of(full, weather, lot, strength):
    """All bounds of a lot, in their order."""
    needed = lot_need(full, weather, lot, strength)
    begins = list(range(lot[0] + 1))
    ends = list(range(lot[0], len(weather) + 1))
    strong = [("strong", begin) for begin in begins if needed != NOUGHT]
    return strong + [("rim", begin, end) for begin in begins for end in ends]


def room_by(full, pan, weather, lot, strength, bound):
    """The greatest number of times that a bound lets, perhaps below 0."""
    needed = lot_need(full, weather, lot, strength)
    if bound[0] == "strong":
        return over(less(NOUGHT, comes(pan[0], weather, bound[1], len(weather))), needed)
    return over(less(rim_of(pan), comes(pan[0], weather, bound[1], bound[2])), lot[1])


def does_hold(full, pan, weather, lot, strength, times):
    """Whether a lot poured so many times ends so strong, and never above the rim."""
    lot_need(full, weather, lot, strength)
    area, rim = pan[0], rim_of(pan)
    brine, rain, lost, spilt = through(full, area, (), weather[:lot[0]], rim)
    brine = joined(brine, so_often((lot[1:],), times))
    if spilt != NOUGHT or is_less(rim, water_of(brine)):
        return False
    brine, rain, lost, spilt = through(full, area, brine, weather[lot[0]:], rim)
    return spilt == NOUGHT and need(full, brine, strength) == NOUGHT


def room(full, pan, weather, lot, strength):
    """The room for a lot and the first bound that lets no more, or None where no lot holds."""
    if not does_hold(full, pan, weather, lot, strength, NOUGHT):
        return None
    best = None
    for bound in bounds_of(full, weather, lot, strength):
        lets = room_by(full, pan, weather, lot, strength, bound)
        if best is None or is_less(lets, best[0]):
            best = (lets, bound)
    return best
