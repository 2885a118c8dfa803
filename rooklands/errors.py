"""The refusals."""


class RookError(ValueError):
    """Any refusal."""


class NoText(RookError):
    """What is handed in is not a board as it is written."""


class NoOrder(RookError):
    """What is handed in is not an order of the rows or columns."""


class NoLines(RookError):
    """What is handed in is not lines of the board."""


class TooFew(RookError):
    """No row or no column would be left."""


class NoSize(RookError):
    """What is handed in is not a size that is taken there."""


class TooMany(RookError):
    """There are, or would be, more than is allowed."""


class NoNumber(RookError):
    """What is handed in is not a number that is taken there."""


class NoStand(RookError):
    """What is handed in is not a stand."""


class NoCell(RookError):
    """What is handed in is not a cell of the board."""


class NotSquare(RookError):
    """The board has not as many rows as columns."""


class NoHits(RookError):
    """What is handed in can't be taken as hits."""


class NoCounts(RookError):
    """What is handed in can't be taken as counts."""


class NoStairs(RookError):
    """What is handed in is not stairs."""


class NotAlike(RookError):
    """The stairs have not as many columns."""


class NoParting(RookError):
    """What is handed in is not a parting."""


class NoPlace(RookError):
    """What is handed in is not a row or column of the kept board."""


class Double(RookError):
    """The cell is there already."""


class NoDeed(RookError):
    """There is no deed to undo."""


class NoRow(RookError):
    """What is handed in is not a row that the desk knows."""
