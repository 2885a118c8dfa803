"""Boards: what they are, and what is made of them by turning, leading and leaving out."""

from rooklands.errors import NoLines, NoOrder, TooFew
from rooklands.things import is_rising, is_whole_within

MOST_LINES = 6


def is_board(thing):
    """Whether a thing, whatever it is, is a board."""
    if not isinstance(thing, tuple) or len(thing) != 3:
        return False
    high, wide, cells = thing
    if not is_whole_within(high, 1, MOST_LINES) or not is_whole_within(wide, 1, MOST_LINES):
        return False
    return is_cells(high, wide, cells)


def is_cells(high, wide, thing):
    """Whether a thing is a rising tuple of places of so many rows and columns."""
    if not isinstance(thing, tuple):
        return False
    # Only places can be compared with one another, so whether they rise is asked last.
    return all([is_place(high, wide, part) for part in thing]) and is_rising(thing)


def is_place(high, wide, thing):
    """Whether a thing is a tuple (row, column) of so many rows and columns."""
    if not isinstance(thing, tuple) or len(thing) != 2:
        return False
    return is_whole_within(thing[0], 0, high - 1) and is_whole_within(thing[1], 0, wide - 1)


def turned(board):
    """The board with rows and columns exchanged."""
    high, wide, cells = board
    return (wide, high, tuple(sorted([(column, row) for row, column in cells])))


def rest(board):
    """The board whose cells are the places that are none of this one's."""
    high, wide, cells = board
    left = [(row, column) for row in range(high) for column in range(wide) if (row, column) not in cells]
    return (high, wide, tuple(left))


def is_order(many, thing):
    """Whether a thing is a tuple of the numbers from 0 on, so many, each once."""
    if not isinstance(thing, tuple) or len(thing) != many:
        return False
    # A truth would pass as 0 or 1 below, and things of unlike kinds can't be sorted.
    if not all([is_whole_within(part, 0, many - 1) for part in thing]):
        return False
    return sorted(thing) == list(range(many))


def all_orders(many):
    """All orders of so many numbers, rising."""
    orders = [()]
    for step in range(many):
        orders = [order + (number,) for order in orders for number in others(many, order)]
    return orders


def led(board, rows, columns):
    """The board led by an order of rows and one of columns."""
    if not is_order(board[0], rows):
        raise NoOrder("this is no order of the board's rows")
    if not is_order(board[1], columns):
        raise NoOrder("this is no order of the board's columns")
    return picked(board, rows, columns)


def picked(board, rows, columns):
    """The board that has the given rows and columns of this one, in the given order."""
    cells = board[2]
    kept = [
        (new_row, new_column)
        for new_row, row in enumerate(rows)
        for new_column, column in enumerate(columns)
        if (row, column) in cells
    ]
    return (len(rows), len(columns), tuple(kept))


def is_lines(board, thing):
    """Whether a thing is a tuple (rows, columns) of lines of the board."""
    if not isinstance(thing, tuple) or len(thing) != 2:
        return False
    return is_numbers_rising(board[0], thing[0]) and is_numbers_rising(board[1], thing[1])


def is_numbers_rising(many, thing):
    """Whether a thing is a rising tuple, perhaps of none, of numbers from 0 on and below so many."""
    if not isinstance(thing, tuple):
        return False
    return all([is_whole_within(part, 0, many - 1) for part in thing]) and is_rising(thing)


def without_lines(board, lines):
    """The board without such lines, what is left numbered anew."""
    if not is_lines(board, lines):
        raise NoLines("these are no lines of the board")
    rows = others(board[0], lines[0])
    columns = others(board[1], lines[1])
    if not rows or not columns:
        raise TooFew("no row or no column would be left")
    return picked(board, rows, columns)


def others(many, numbers):
    """The numbers from 0 on and below so many that are none of these."""
    return [number for number in range(many) if number not in numbers]
