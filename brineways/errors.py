"""The refusals: each stands straight under BrineError."""


class BrineError(ValueError):
    """What every refusal of the program is."""


class NoFraction(BrineError):
    """No such fraction: a division by nought, or a share outside of 0 to 1."""


class NoBrine(BrineError):
    """Something that is no layer stands where a layer should."""


class NoStrength(BrineError):
    """A strength outside of what is told."""


class NoWater(BrineError):
    """An amount of water outside of what is told."""


class NoMoment(BrineError):
    """Something that is no moment of the weather."""


class NoYear(BrineError):
    """Something that is no number of years or times."""


class NoPan(BrineError):
    """A pan that is not there, or that is led to itself."""


class NoRoom(BrineError):
    """More water than a rim holds."""


class Weaker(BrineError):
    """A weaker brine would be led onto a stronger one."""


class NoDeed(BrineError):
    """Something that is no deed, or no number of one."""


class NoGate(BrineError):
    """Something that is no row of gates."""


class NoLot(BrineError):
    """Something that is no lot."""


class NoPlan(BrineError):
    """Something that is no field, or that no plan can bound."""


class NoLine(BrineError):
    """A line that the desk does not know."""


class NoLater(BrineError):
    """A deed behind it would be refused; `number` is the first of these."""

    def __init__(self, number):
        # The number is not written out: Python writes no number of very many figures.
        BrineError.__init__(self, "a later deed would be refused")
        self.number = number


class NoText(BrineError):
    """A text that writes nothing; `at` is the place where it goes wrong."""

    def __init__(self, at):
        BrineError.__init__(self, "the text writes nothing of the kind")
        self.at = at
