"""The refusals: each stands straight beneath FloorError."""


class FloorError(ValueError):
    """Any refusal."""


class NoFloor(FloorError):
    """What was handed in as a floor is none."""


class NoHeights(FloorError):
    """What was handed in as heights is none."""


class NoColour(FloorError):
    """What was handed in as a colour is none."""


class NoEnd(FloorError):
    """What was handed in as the number of an end is none."""


class NoPattern(FloorError):
    """What was handed in as a pattern is none."""


class NoNumber(FloorError):
    """What was handed in as a whole number is none."""


class NoTurn(FloorError):
    """What was handed in is no turn that can be done."""


class OtherSize(FloorError):
    """Two things that must have one size have unlike ones."""


class NoRest(FloorError):
    """What was handed in as a rest is none."""


class NoHeld(FloorError):
    """What was handed in as held is none."""


class NoLanes(FloorError):
    """What was handed in as lanes is none."""


class NoPushes(FloorError):
    """What was handed in as pushes is none."""


class NoText(FloorError):
    """A text writes nothing that can be read."""


class NoLine(FloorError):
    """A line has none of the forms that a desk takes."""


class NoUndo(FloorError):
    """No line is left that could be undone."""


class TooMany(FloorError):
    """A number or a size is outside of what is told."""


class HeldApart(FloorError):
    """No floor keeps what is held: the places one and other ask for heights too far apart."""

    def __init__(self, one, other):
        super().__init__("two held places ask for heights too far apart")
        self.one = one
        self.other = other
