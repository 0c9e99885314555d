"""A keeper: deeds told for moments, in whatever order, and what stands by them."""

from brineways.errors import BrineError, NoDeed, NoLater, NoMoment
from brineways.fractions import NOUGHT, is_fraction, is_less, is_whole, plus
from brineways.spells import is_moment
from brineways.works import done, passed


def check_told_moment(works, moment):
    """Refuses anything that is no moment of the works' weather."""
    if not is_fraction(moment) or not is_moment(works[2], moment):
        raise NoMoment("this is no moment of the weather")


def added_up(account, more):
    """An account with another one."""
    return tuple([plus(one, other) for one, other in zip(account, more)])


def first_state(works):
    """What stands at moment 0: (moment, stand, account)."""
    return (NOUGHT, ((),) * len(works[1]), (NOUGHT,) * 8)


def waited(works, state, moment):
    """A state that the weather led on to a moment."""
    now, stand, account = state
    stand, rain, lost, spilt = passed(works, stand, now, moment)
    more = (NOUGHT, rain, lost, spilt, NOUGHT, NOUGHT, NOUGHT, NOUGHT)
    return (moment, stand, added_up(account, more))


def done_at(works, state, moment, deed):
    """A state behind a deed that is done at a moment."""
    now, stand, account = waited(works, state, moment)
    stand, moved = done(works, stand, deed)
    water_poured, salt_poured, water_let, salt_let, raked = moved
    more = (water_poured, NOUGHT, NOUGHT, NOUGHT, water_let, salt_poured, salt_let, raked)
    return (moment, stand, added_up(account, more))


def done_again(works, state, entries):
    """The states behind later deeds, from a state on that is new to them."""
    states = []
    for moment, number, deed in entries:
        try:
            state = done_at(works, state, moment, deed)
        except BrineError:
            raise NoLater(number) from None
        states.append(state)
    return tuple(states)


class Keeper:
    """Keeps works from moment 0 on, at first with nothing in each pan."""

    def __init__(self, works):
        self.works = works
        # Triples (moment, number, deed) in the order of doing, and the state behind each.
        self.entries = ()
        self.states = ()
        self.coming = 0
        self.past = []

    def state_behind(self, many):
        """The state behind so many of the deeds."""
        return self.states[many - 1] if many > 0 else first_state(self.works)

    def many_till(self, moment):
        """How many of the deeds are no later than a moment."""
        return len([entry for entry in self.entries if not is_less(moment, entry[0])])

    def keep(self, entries, states, coming):
        """Takes over what a telling or a dropping leaves, and remembers what was."""
        self.past.append((self.entries, self.states, self.coming))
        self.entries = entries
        self.states = states
        self.coming = coming

    def tell(self, moment, deed):
        """Tells a deed for a moment: its number."""
        check_told_moment(self.works, moment)
        many = self.many_till(moment)
        state = done_at(self.works, self.state_behind(many), moment, deed)
        later = self.entries[many:]
        states = self.states[:many] + (state,) + done_again(self.works, state, later)
        number = self.coming
        self.keep(self.entries[:many] + ((moment, number, deed),) + later, states, number + 1)
        return number

    def place_of(self, number):
        """Where, in the order of doing, the deed of a number stands, or None."""
        for at, entry in enumerate(self.entries):
            if entry[1] == number:
                return at
        return None

    def drop(self, number):
        """Drops a deed by its number."""
        at = self.place_of(number) if is_whole(number) else None
        if at is None:
            raise NoDeed("no deed that stands has this number")
        later = self.entries[at + 1:]
        states = self.states[:at] + done_again(self.works, self.state_behind(at), later)
        self.keep(self.entries[:at] + later, states, self.coming)

    def back(self):
        """Undoes the last telling or dropping that is not undone yet."""
        if not self.past:
            raise NoDeed("nothing is left to undo")
        self.entries, self.states, self.coming = self.past.pop()

    def state_at(self, moment):
        """The state at a moment, behind all its deeds."""
        check_told_moment(self.works, moment)
        return waited(self.works, self.state_behind(self.many_till(moment)), moment)

    def stand_at(self, moment):
        """The stand at a moment, behind all its deeds."""
        return self.state_at(moment)[1]

    def account_at(self, moment):
        """What was poured, rained, went, went over, was let; salt poured, let, raked."""
        return self.state_at(moment)[2]

    def deeds(self):
        """The deeds that stand, as triples (moment, number, deed), in the order of doing."""
        return list(self.entries)
