"""The refusals: one class for each, all of them straight under RookError."""


class RookError(ValueError):
    """Any refusal."""


class NoSquare(RookError):
    """The thing is no square."""


class NoMove(RookError):
    """The move can't be done on this square."""


class TooMany(RookError):
    """The square would have too many columns."""


class NoPart(RookError):
    """The one sum of powers can't be parted by the other one."""


class NotOne(RookError):
    """The square has more lines than one."""


class NoPaper(RookError):
    """The paper isn't let by; at is the number of the first clause that fails."""

    def __init__(self, at):
        self.at = at


class NoText(RookError):
    """The thing writes no square."""


class NoRow(RookError):
    """The desk knows no such row."""


class NoStep(RookError):
    """There is nothing to undo or to redo."""
