"""Ladders: pans, one beneath another, with gates that open by themselves."""

from brineways.brims import rim_of
from brineways.brines import dissolved_of, is_strength, joined, need, water_of
from brineways.draws import fallen_layers
from brineways.errors import NoGate
from brineways.fractions import NOUGHT, greatest, is_less, least, less, over, plus, times
from brineways.spells import check_moment, spells_between
from brineways.works import passed_through, replaced


def is_gates(works, thing):
    """Whether anything is gates of works."""
    full, pans, weather = works
    if not isinstance(thing, tuple) or len(thing) != len(pans) - 1:
        return False
    return all([is_strength(full, strength) for strength in thing])


def does_open(works, gates, stand, gate):
    """Whether a gate opens as things stand."""
    full, pans, weather = works
    water = water_of(stand[gate])
    if water == NOUGHT or water_of(stand[gate + 1]) != NOUGHT:
        return False
    if is_less(rim_of(pans[gate + 1]), water):
        return False
    return need(full, stand[gate], gates[gate]) == NOUGHT


def opened(stand, gate):
    """A stand behind the opening of a gate."""
    beneath = joined(stand[gate + 1], dissolved_of(stand[gate]))
    return replaced(replaced(stand, gate, fallen_layers(stand[gate])), gate + 1, beneath)


def opened_now(works, gates, stand):
    """A stand behind all that opens at one moment, and the gates in their order."""
    order = []
    ready = [gate for gate in range(len(gates)) if does_open(works, gates, stand, gate)]
    while ready:
        stand = opened(stand, ready[-1])
        order.append(ready[-1])
        ready = [gate for gate in range(len(gates)) if does_open(works, gates, stand, gate)]
    return (stand, order)


def wait_of_gate(works, gates, stand, gate, net):
    """How many days of a sun it takes till a gate opens, or None."""
    full, pans, weather = works
    sun = less(NOUGHT, net)
    rate = times(pans[gate][0], sun)
    water = water_of(stand[gate])
    beyond = less(water, rim_of(pans[gate + 1]))
    till_ready = over(greatest((need(full, stand[gate], gates[gate]), beyond)), rate)
    till_dry = over(water_of(stand[gate + 1]), times(pans[gate + 1][0], sun))
    wait = greatest((till_ready, till_dry))
    # Where nothing is left by then, there is nothing to lead.
    return wait if is_less(times(wait, rate), water) else None


def wait_till_next(works, gates, stand, net):
    """How many days of a net it takes till the next gate opens, or None."""
    # In rain each pan has water at once, and where it is still nothing changes.
    if not is_less(net, NOUGHT):
        return None
    waits = [wait_of_gate(works, gates, stand, gate, net) for gate in range(len(gates))]
    found = [wait for wait in waits if wait is not None]
    return least(found) if found else None


def run_spell(works, gates, stand, spell):
    """A stand behind a spell, its gates opened, and the openings later than its begin."""
    days, net = spell
    now = NOUGHT
    row = []
    wait = wait_till_next(works, gates, stand, net)
    while wait is not None and not is_less(days, plus(now, wait)):
        now = plus(now, wait)
        stand, order = opened_now(works, gates, passed_through(works, stand, ((wait, net),))[0])
        row += [(now, gate) for gate in order]
        wait = wait_till_next(works, gates, stand, net)
    return (passed_through(works, stand, ((less(days, now), net),))[0], row)


def run(works, gates, stand, moment):
    """A stand at a moment, behind its openings, and all openings till then."""
    if not is_gates(works, gates):
        raise NoGate("these are no gates of the works")
    check_moment(works[2], moment)
    stand, order = opened_now(works, gates, stand)
    row = [(NOUGHT, gate) for gate in order]
    now = NOUGHT
    for spell in spells_between(works[2], NOUGHT, moment):
        stand, more = run_spell(works, gates, stand, spell)
        row += [(plus(now, later), gate) for later, gate in more]
        now = plus(now, spell[0])
    return (stand, tuple(row))


def openings(works, gates, stand, moment):
    """The openings to a moment, as pairs (moment, gate)."""
    return run(works, gates, stand, moment)[1]


def run_to(works, gates, stand, moment):
    """The stand at a moment, behind its openings."""
    return run(works, gates, stand, moment)[0]
