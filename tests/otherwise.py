"""Works, keepers and gates once more, by the document's words and Python's own fractions."""

from fractions import Fraction

from brineways import errors
from support import (
    NOUGHT, dried_otherwise, ends_of, laid_otherwise, layer, need_otherwise, pair, rained_otherwise, salt_otherwise,
    some_area, some_full, some_layer, some_moment, some_weather, water_otherwise, worth,
)


def rim_otherwise(pan):
    return worth(pan[0]) * worth(pan[1])


def pan_otherwise(full, pan, brine, weather, one, other):
    """A pan from one moment to another: [brine, rained, gone, over], the last three worths."""
    rain = gone = over = Fraction(0)
    rim = rim_otherwise(pan)
    for begin, (days, net) in zip(ends_of(weather), weather):
        part = min(begin + worth(days), worth(other)) - max(begin, worth(one))
        amount = worth(pan[0]) * worth(net) * part
        if part > 0 and amount > 0:
            above = max(Fraction(0), worth(water_otherwise(brine)) + amount - rim)
            brine = rained_otherwise(brine, pair(amount - above))
            rain, over = rain + amount, over + above
        elif part > 0 and amount < 0:
            brine, went = dried_otherwise(full, brine, pair(-amount))
            gone += worth(went)
    return [brine, rain, gone, over]


def passed_otherwise(works, stand, one, other):
    full, pans, weather = works
    each = [pan_otherwise(full, pan, brine, weather, one, other) for pan, brine in zip(pans, stand)]
    return (tuple(told[0] for told in each),) + tuple(pair(sum(told[at] for told in each)) for at in (1, 2, 3))


def taken_otherwise(brine, water, how):
    """So much water of a brine: (taken, left)."""
    fallen = [one for one in brine if one[0] == NOUGHT]
    wet = [one for one in brine if one[0] != NOUGHT]
    lacks, taken, left = worth(water), [], []
    for held, salt in wet if how == "under" else wet[::-1]:
        part = min(lacks, worth(held)) / worth(held)
        lacks -= part * worth(held)
        taken.append(layer(part * worth(held), part * worth(salt)))
        left.append(layer((1 - part) * worth(held), (1 - part) * worth(salt)))
    empty = layer(0, 0)
    return (laid_otherwise([one for one in taken if one != empty]),
            laid_otherwise(fallen + [one for one in left if one != empty]))


def weakest_otherwise(brine):
    return min((worth(salt) / worth(held) for held, salt in brine if held != NOUGHT), default=None)


def refusal_otherwise(works, stand, deed):
    """The refusal of a deed, which is one by 9.2, or None."""
    named = deed[1:3] if deed[0] == "lead" else deed[1:2]
    if any(not 0 <= pan < len(works[1]) for pan in named) or (len(named) == 2 and named[0] == named[1]):
        return errors.NoPan
    water = {"pour": 2, "lead": 3, "let": 2}.get(deed[0])
    amount = worth(deed[water]) if water else 0
    if deed[0] in ("lead", "let") and worth(water_otherwise(stand[deed[1]])) < amount:
        return errors.NoWater
    onto = {"pour": 1, "lead": 2}.get(deed[0])
    if onto and worth(water_otherwise(stand[deed[onto]])) + amount > rim_otherwise(works[1][deed[onto]]):
        return errors.NoRoom
    if deed[0] == "lead" and not deed[5]:
        taken = taken_otherwise(stand[deed[1]], deed[3], deed[4])[0]
        lowest = weakest_otherwise(stand[deed[2]])
        if lowest is not None and weakest_otherwise(taken) < lowest:
            return errors.Weaker
    return None


def done_otherwise(stand, deed):
    """The stand behind a deed that is not refused, and what was moved."""
    stand, moved = list(stand), [NOUGHT] * 5
    brine = stand[deed[1]]
    if deed[0] == "pour":
        stand[deed[1]] = laid_otherwise(brine + (deed[2:],))
        moved[:2] = deed[2:]
    elif deed[0] == "lead":
        taken, stand[deed[1]] = taken_otherwise(brine, deed[3], deed[4])
        stand[deed[2]] = laid_otherwise(stand[deed[2]] + taken)
    elif deed[0] == "let":
        taken, stand[deed[1]] = taken_otherwise(brine, deed[2], "over")
        moved[2:4] = deed[2], salt_otherwise(taken)
    elif deed[0] == "rake":
        stand[deed[1]] = tuple(one for one in brine if one[0] != NOUGHT)
        moved[4] = salt_otherwise([one for one in brine if one[0] == NOUGHT])
    else:
        wet = [one for one in brine if one[0] != NOUGHT]
        whole = ((water_otherwise(wet), salt_otherwise(wet)),) if wet else ()
        stand[deed[1]] = tuple(one for one in brine if one[0] == NOUGHT) + whole
    return tuple(stand), tuple(moved)


def kept_otherwise(works, entries, moment):
    """All deeds done from moment 0 on: (stand, account) at a moment, or (number, refusal)."""
    stand, now, account = ((),) * len(works[1]), NOUGHT, [Fraction(0)] * 8

    def wait(stand, until):
        stand, *amounts = passed_otherwise(works, stand, now, until)
        for at, amount in enumerate(amounts):
            account[1 + at] += worth(amount)
        return stand

    for at, number, deed in sorted(entries, key=lambda one: (worth(one[0]), one[1])):
        if worth(at) <= worth(moment):
            stand, now = wait(stand, at), at
            refusal = refusal_otherwise(works, stand, deed)
            if refusal is not None:
                return number, refusal
            stand, moved = done_otherwise(stand, deed)
            for place, amount in zip((0, 5, 4, 6, 7), moved):
                account[place] += worth(amount)
    return wait(stand, moment), tuple(pair(one) for one in account)


def opens_otherwise(works, gates, stand):
    """The gates that open as things stand."""
    found = []
    for gate, strength in enumerate(gates):
        water = worth(water_otherwise(stand[gate]))
        if 0 < water <= rim_otherwise(works[1][gate + 1]) and water_otherwise(stand[gate + 1]) == NOUGHT:
            if need_otherwise(stand[gate], strength) == NOUGHT:
                found.append(gate)
    return found


def opened_otherwise(stand, gate):
    stand = list(stand)
    wet = tuple(one for one in stand[gate] if one[0] != NOUGHT)
    stand[gate + 1] = laid_otherwise(stand[gate + 1] + wet)
    stand[gate] = tuple(one for one in stand[gate] if one[0] == NOUGHT)
    return tuple(stand)


def some_works(rng, most_pans=5, most_spells=6, fewest_pans=1):
    full = some_full(rng)
    pans = tuple((some_area(rng), pair(Fraction(rng.randint(4, 40), rng.randint(1, 3))))
                 for _ in range(rng.randint(fewest_pans, most_pans)))
    return (full, pans, some_weather(rng, most_spells))


def some_held(rng, full, pan):
    """A brine that a pan holds, now and then just to its rim."""
    rim, brine, kind = rim_otherwise(pan), (), rng.randrange(5)
    if kind == 0:
        return ()
    for _ in range(rng.randint(1, 4)):
        one = some_layer(rng, full)
        if worth(water_otherwise(brine + (one,))) <= rim:
            brine = laid_otherwise(brine + (one,))
    room = rim - worth(water_otherwise(brine))
    return laid_otherwise(brine + (layer(room, worth(full) * room / 2),)) if kind == 1 and room > 0 else brine


def some_stand(rng, works):
    return tuple(some_held(rng, works[0], pan) for pan in works[1])


def some_deed(rng, works, stand=None):
    """A deed; with a stand its amounts are often all that stands, or just to a rim."""
    pans = len(works[1])
    low, high = (-1, pans + 1) if rng.randrange(9) == 0 else (0, pans)
    pan, other = rng.randrange(pans), rng.randrange(low, high)
    amount = Fraction(rng.randint(1, 24), rng.randint(1, 5))
    if stand is not None:
        held = worth(water_otherwise(stand[pan]))
        onto = stand[other] if 0 <= other < pans else ()
        space = rim_otherwise(works[1][other % pans]) - worth(water_otherwise(onto))
        amount = rng.choice([one for one in (amount, held, space, min(held, space) / 2, min(held, space) / 3) if one > 0])
    word = rng.choice(("pour", "pour", "lead", "lead", "lead", "let", "rake", "stir"))
    if word == "pour":
        return ("pour", other, pair(amount), pair(worth(works[0]) * amount * Fraction(rng.randint(0, 6), 6)))
    if word == "lead":
        return ("lead", pan, other, pair(amount), rng.choice(("under", "over")), rng.randrange(4) == 0)
    if word == "let":
        return ("let", pan, pair(amount))
    return (word, other)


def some_told(rng, works, stand_at):
    """A moment and a deed for a keeper, which tells what stands."""
    moment = some_moment(rng, works[2])
    return moment, some_deed(rng, works, stand_at(moment))
