"""Lesser boards, boards put together, and the pieces of a board."""

from rooklands.boards import MOST_LINES, is_place, without_lines
from rooklands.errors import NoCell, TooMany


def without(board, cell):
    """The board without a cell of it."""
    refuse_no_cell(board, cell)
    high, wide, cells = board
    return (high, wide, tuple([other for other in cells if other != cell]))


def struck(board, cell):
    """The board without the row and the column of a cell of it."""
    refuse_no_cell(board, cell)
    row, column = cell
    return without_lines(board, ((row,), (column,)))


def refuse_no_cell(board, cell):
    """Refuses what is no cell of the board."""
    # A place is asked for first, for (True, 0) would be found among the cells as (1, 0).
    if not is_place(board[0], board[1], cell) or cell not in board[2]:
        raise NoCell("this is no cell of the board")


def beside(one, other):
    """Two boards put together, the second one below and to the right of the first one."""
    high = one[0] + other[0]
    wide = one[1] + other[1]
    if high > MOST_LINES or wide > MOST_LINES:
        raise TooMany("there would be too many rows or columns")
    moved = [(one[0] + row, one[1] + column) for row, column in other[2]]
    return (high, wide, one[2] + tuple(moved))


def multiplied(one, other):
    """Two lists of numbers multiplied: places are added, numbers multiplied."""
    told = [0] * (len(one) + len(other) - 1)
    for at, number in enumerate(one):
        for further, factor in enumerate(other):
            told[at + further] += number * factor
    return told


def pieces(board):
    """The lots of cells of the board that hang together, rising."""
    told = []
    left = list(board[2])
    while left:
        piece = piece_with(left[0], left)
        told.append(piece)
        left = [cell for cell in left if cell not in piece]
    return told


def piece_with(cell, cells):
    """The cells of these that hang together with one of them."""
    piece = [cell]
    new = [cell]
    while new:
        new = [other for other in cells if other not in piece and meets_one(other, new)]
        piece = piece + new
    return tuple(sorted(piece))


def meets_one(cell, cells):
    """Whether a cell has a row or a column in common with one of these."""
    return any([cell[0] == row or cell[1] == column for row, column in cells])
