"""Works: pans under one weather, the deeds done in them, and how they pass."""

from brineways.brims import is_pan, rim_of
from brineways.brines import (
    dissolved_of, fallen_of, is_brine, is_wet, joined, salt_of, water_of, weakest,
)
from brineways.draws import drawn, skimmed, stirred
from brineways.errors import NoDeed, NoPan, NoRoom, Weaker
from brineways.fractions import NOUGHT, is_less, is_positive, is_whole, plus, summed
from brineways.spells import check_moments, is_weather, spells_between, through

MOST_PANS = 5


def are_pans(thing, most):
    """Whether anything is a row of one pan or more, to so many."""
    if not isinstance(thing, tuple) or not 1 <= len(thing) <= most:
        return False
    return all([is_pan(pan) for pan in thing])


def is_works(thing):
    """Whether anything is works."""
    if not isinstance(thing, tuple) or len(thing) != 3:
        return False
    full, pans, weather = thing
    return is_positive(full) and are_pans(pans, MOST_PANS) and is_weather(weather)


def is_held(full, pan, thing):
    """Whether anything is a brine of no more water than a pan's rim."""
    return is_brine(full, thing) and not is_less(rim_of(pan), water_of(thing))


def is_stand(works, thing):
    """Whether anything is a stand of works."""
    full, pans, weather = works
    if not isinstance(thing, tuple) or len(thing) != len(pans):
        return False
    return all([is_held(full, pan, brine) for pan, brine in zip(pans, thing)])


def is_pouring(full, rest):
    """Whether this, behind its word, is a deed that pours."""
    return len(rest) == 3 and is_whole(rest[0]) and is_wet(full, rest[1], rest[2])


def is_leading(full, rest):
    """Whether this, behind its word, is a deed that leads."""
    if len(rest) != 5 or not is_whole(rest[0]) or not is_whole(rest[1]):
        return False
    water, how, anyhow = rest[2:]
    return is_positive(water) and is_way(how) and isinstance(anyhow, bool)


def is_way(thing):
    """Whether anything says how brine is led."""
    return isinstance(thing, str) and thing in ("under", "over")


def is_letting(full, rest):
    """Whether this, behind its word, is a deed that lets."""
    return len(rest) == 2 and is_whole(rest[0]) and is_positive(rest[1])


def is_at_pan(full, rest):
    """Whether this, behind its word, is a pan's number alone."""
    return len(rest) == 1 and is_whole(rest[0])


FORMS = {
    "pour": is_pouring, "lead": is_leading, "let": is_letting, "rake": is_at_pan, "stir": is_at_pan,
}


def is_deed(works, thing):
    """Whether anything is a deed, its pans there or not."""
    if not isinstance(thing, tuple) or not thing or not isinstance(thing[0], str):
        return False
    form = FORMS.get(thing[0])
    return form is not None and form(works[0], thing[1:])


def check_pans(works, deed):
    """Refuses a deed with a pan that is not there, or that is led to itself."""
    named = deed[1:3] if deed[0] == "lead" else deed[1:2]
    if not all([0 <= pan < len(works[1]) for pan in named]):
        raise NoPan("there is no such pan")
    if len(named) == 2 and named[0] == named[1]:
        raise NoPan("no pan is led to itself")


def check_space(works, stand, pan, water):
    """Refuses more water than a pan still holds."""
    if is_less(rim_of(works[1][pan]), plus(water_of(stand[pan]), water)):
        raise NoRoom("more water than the rim holds")


def replaced(stand, pan, brine):
    """A stand with another brine in one pan."""
    return stand[:pan] + (brine,) + stand[pan + 1:]


def pour(works, stand, deed):
    """Lays brine from the sea in."""
    word, pan, water, salt = deed
    check_space(works, stand, pan, water)
    brine = joined(stand[pan], ((water, salt),))
    return (replaced(stand, pan, brine), (water, salt, NOUGHT, NOUGHT, NOUGHT))


def is_onto_stronger(taken, brine):
    """Whether some layer taken is weaker than each one that a brine has dissolved."""
    lowest = weakest(brine)
    return lowest is not None and is_less(weakest(taken), lowest)


def lead(works, stand, deed):
    """Leads brine from one pan to another."""
    word, pan, other, water, how, anyhow = deed
    taken, left = drawn(stand[pan], water) if how == "under" else skimmed(stand[pan], water)
    check_space(works, stand, other, water)
    if not anyhow and is_onto_stronger(taken, stand[other]):
        raise Weaker("weaker brine would be led onto stronger")
    led = replaced(replaced(stand, pan, left), other, joined(stand[other], taken))
    return (led, (NOUGHT, NOUGHT, NOUGHT, NOUGHT, NOUGHT))


def let(works, stand, deed):
    """Lets skimmed brine to the sea."""
    word, pan, water = deed
    taken, left = skimmed(stand[pan], water)
    return (replaced(stand, pan, left), (NOUGHT, NOUGHT, water, salt_of(taken), NOUGHT))


def rake(works, stand, deed):
    """Takes all fallen salt of a pan."""
    brine = stand[deed[1]]
    moved = (NOUGHT, NOUGHT, NOUGHT, NOUGHT, fallen_of(brine))
    return (replaced(stand, deed[1], dissolved_of(brine)), moved)


def stir(works, stand, deed):
    """Stirs what stands in a pan."""
    brine = stirred(stand[deed[1]])
    return (replaced(stand, deed[1], brine), (NOUGHT, NOUGHT, NOUGHT, NOUGHT, NOUGHT))


DOINGS = {"pour": pour, "lead": lead, "let": let, "rake": rake, "stir": stir}


def done(works, stand, deed):
    """The stand behind a deed, and what was moved: poured, let, raked."""
    if not is_deed(works, deed):
        raise NoDeed("this is no deed")
    check_pans(works, deed)
    doing = DOINGS[deed[0]]
    return doing(works, stand, deed)


def passed_through(works, stand, spells):
    """A stand behind spells, and what rained, went and went over, of all pans."""
    full, pans, weather = works
    each = [through(full, pan[0], brine, spells, rim_of(pan)) for pan, brine in zip(pans, stand)]
    rain = summed([one[1] for one in each])
    lost = summed([one[2] for one in each])
    spilt = summed([one[3] for one in each])
    return (tuple([one[0] for one in each]), rain, lost, spilt)


def passed(works, stand, one, other):
    """A stand that passed from one moment to another, and what rained, went and went over."""
    check_moments(works[2], one, other)
    return passed_through(works, stand, spells_between(works[2], one, other))
