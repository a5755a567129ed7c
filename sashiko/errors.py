"""The refusals of the program, one class for each."""


class SewError(ValueError):
    """Any refusal."""


class BadSize(SewError):
    """A cloth, a ring, a table or finds would be too small or too large."""


class BadBit(SewError):
    """What should be a bit is neither 0 nor 1."""


class NoCell(SewError):
    """There is no such cell."""


class NoLine(SewError):
    """There is no such line, or no such way."""


class NoStep(SewError):
    """The line has no such step."""


class NoPoint(SewError):
    """There is no such point."""


class BadName(SewError):
    """A name is not one to twelve letters from a to z."""


class Taken(SewError):
    """The name belongs to another cloth already."""


class NoCloth(SewError):
    """There is no cloth of that name."""


class Known(SewError):
    """The same fact is kept already."""


class NoFact(SewError):
    """No fact of that number is kept."""


class NothingLeft(SewError):
    """There is nothing left to undo or to redo."""


class BadNumber(SewError):
    """No cloth has that number."""


class BadText(SewError):
    """The text is not one that the program writes."""


class Unfit(SewError):
    """Two cloths can't be sewn together; `at` is the least number of a line that does not go on."""

    def __init__(self, at):
        SewError.__init__(self, f"line {at} does not go on")
        self.at = at


class Clash(SewError):
    """A fact goes against kept facts; `ring` is the list of the reasons' numbers."""

    def __init__(self, ring):
        SewError.__init__(self, "the fact goes against kept facts")
        # A copy, so that whoever handed the list in may go on changing it.
        self.ring = list(ring)


class NoPicture(SewError):
    """A table is no cloth's picture; `x` and `y` tell its first even block."""

    def __init__(self, x, y):
        SewError.__init__(self, f"the block at ({x}, {y}) is even")
        self.x = x
        self.y = y
