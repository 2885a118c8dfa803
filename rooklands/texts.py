"""Boards as they are written and read."""

from rooklands.boards import MOST_LINES
from rooklands.errors import NoText

CELL = "#"
OTHER = "."
BETWEEN = "/"


def written(board):
    """The text of a board."""
    return BETWEEN.join([written_row(board, row) for row in range(board[0])])


def written_row(board, row):
    """The signs of one row of a board."""
    return "".join([CELL if (row, column) in board[2] else OTHER for column in range(board[1])])


def read(text):
    """The board that is so written."""
    if not isinstance(text, str):
        raise NoText("this is no text")
    rows = text.split(BETWEEN)
    if not are_rows(rows):
        raise NoText("no board is written so")
    cells = [
        (row, column)
        for row, signs in enumerate(rows)
        for column, sign in enumerate(signs)
        if sign == CELL
    ]
    return (len(rows), len(rows[0]), tuple(cells))


def are_rows(rows):
    """Whether texts are the rows of a written board."""
    wide = len(rows[0])
    if len(rows) > MOST_LINES or wide < 1 or wide > MOST_LINES:
        return False
    return all([len(signs) == wide and has_board_signs(signs) for signs in rows])


def has_board_signs(signs):
    """Whether each sign of a text is one for a place."""
    return all([sign in (CELL, OTHER) for sign in signs])
