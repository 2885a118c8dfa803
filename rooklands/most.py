"""The most rooks that can stand on a board, and what shows that there can't be more."""

from rooklands.boards import is_lines
from rooklands.lesser import without
from rooklands.stands import counts, is_stand, stand_at


def holds(board, thing):
    """Whether a thing, whatever it is, is lines that hold the board."""
    if not is_lines(board, thing):
        return False
    rows, columns = thing
    return all([row in rows or column in columns for row, column in board[2]])


def is_showing(board, thing):
    """Whether a thing, whatever it is, is a showing of the board."""
    if not isinstance(thing, tuple) or len(thing) != 2:
        return False
    stand, lines = thing
    return is_stand(board, stand) and holds(board, lines) and len(stand) == how_many_lines(lines)


def how_many_lines(lines):
    """How many rows and columns lines are together."""
    return len(lines[0]) + len(lines[1])


def showing(board):
    """Some showing of the board: its first greatest stand, and lines that are as few as can be."""
    return (stand_at(board, greatest_size(board), 0), fewest_lines(board))


def greatest_size(board):
    """The greatest size that some stand of the board has."""
    return max([size for size, many in enumerate(counts(board)) if many > 0])


def fewest_lines(board):
    """Lines that hold the board, as few as can be."""
    return min([lines_with(board, rows) for rows in lots_of_rows(board[0])], key=how_many_lines)


def lots_of_rows(high):
    """Every rising tuple, perhaps of none, of so many rows."""
    lots = [()]
    for row in range(high):
        lots = lots + [rows + (row,) for rows in lots]
    return lots


def lines_with(board, rows):
    """The lines that hold the board with just these rows and as few columns as can be."""
    columns = {column for row, column in board[2] if row not in rows}
    return (rows, tuple(sorted(columns)))


def sure(board):
    """The cells that are in all of the greatest stands, and the cells that are in none."""
    size = greatest_size(board)
    many = counts(board)[size]
    # Without a cell, there are left just those stands that it is not in.
    left = [(cell, counts(without(board, cell))[size]) for cell in board[2]]
    in_all = [cell for cell, others in left if others == 0]
    in_none = [cell for cell, others in left if others == many]
    return (tuple(in_all), tuple(in_none))
