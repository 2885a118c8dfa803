"""Stairs: numbers that never fall, and the boards whose columns they are."""

from rooklands.boards import MOST_LINES
from rooklands.errors import NoStairs
from rooklands.things import is_never_falling, is_whole_within


def is_stairs(thing):
    """Whether a thing, whatever it is, is stairs."""
    if not isinstance(thing, tuple) or not 1 <= len(thing) <= MOST_LINES:
        return False
    return all([is_whole_within(part, 0, MOST_LINES) for part in thing]) and is_never_falling(thing)


def refuse_no_stairs(stairs):
    """Refuses what are no stairs."""
    if not is_stairs(stairs):
        raise NoStairs("these are no stairs")


def stair_board(stairs):
    """The board of stairs: each column has its first cells, as many as its number."""
    refuse_no_stairs(stairs)
    # A board has a row at least, also where no column has a cell.
    high = max(stairs[-1], 1)
    cells = [(row, column) for row in range(high) for column, many in enumerate(stairs) if row < many]
    return (high, len(stairs), tuple(cells))


def stairs_of(board):
    """The stairs whose board this is, None where there are none."""
    columns = [column for row, column in board[2]]
    told = tuple([columns.count(column) for column in range(board[1])])
    if is_stairs(told) and stair_board(told) == board:
        return told
    return None
