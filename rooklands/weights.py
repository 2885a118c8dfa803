"""Weights of stands of stairs: how many cells they leave."""

from rooklands.errors import NoNumber, NoSize, NoStand, TooMany
from rooklands.heads import heads
from rooklands.lesser import multiplied
from rooklands.stairs import refuse_no_stairs, stair_board
from rooklands.stands import every_stand, is_stand
from rooklands.things import is_whole_within

MOST_CELLS = 20
MOST_ADDED = 8


def left_cells(stairs, stand):
    """The cells of the board of stairs that a stand leaves."""
    board = stair_board(stairs)
    if not is_stand(board, stand):
        raise NoStand("this is no stand of the stairs")
    return cells_left(board, stand)


def cells_left(board, stand):
    """The cells of the board that a stand, known to be one, leaves."""
    return tuple([cell for cell in board[2] if is_left(stand, cell)])


def is_left(stand, cell):
    """Whether a cell is none of a stand's, none above one of these in its column, none to the right in its row."""
    return not any([
        (column == cell[1] and row >= cell[0]) or (row == cell[0] and column < cell[1])
        for row, column in stand
    ])


def by_weight(stairs, size):
    """How many stands of a size have each weight, from 0 to how many cells the board of stairs has."""
    refuse_too_many(stairs)
    refuse_no_size(stairs, size)
    board = stair_board(stairs)
    told = [0] * (sum(stairs) + 1)
    for stand in every_stand(board, size):
        told[weight(board, stand)] += 1
    return told


def lightest(stairs, size):
    """The first stand of a size of the least weight, None where there is none of this size."""
    refuse_too_many(stairs)
    refuse_no_size(stairs, size)
    board = stair_board(stairs)
    # Of several least ones min tells the first, and the stands are rising.
    return min(every_stand(board, size), key=lambda stand: weight(board, stand), default=None)


def weight(board, stand):
    """How many cells of the board a stand leaves."""
    return len(cells_left(board, stand))


def ones_product(stairs, number):
    """The product of the ones of a number and a head together, for each head."""
    refuse_too_many(stairs)
    if not is_whole_within(number, 0, MOST_ADDED):
        raise NoNumber("this is no number from 0 to 8")
    lengths = [number + head for head in heads(stairs)]
    if min(lengths) <= 0:
        return []
    told = [1]
    for length in lengths:
        told = multiplied(told, [1] * length)
    return told


def refuse_too_many(stairs):
    """Refuses what are no stairs, and stairs of too many cells."""
    refuse_no_stairs(stairs)
    if sum(stairs) > MOST_CELLS:
        raise TooMany("the stairs have too many cells")


def refuse_no_size(stairs, size):
    """Refuses what is no number from 0 to how many columns there are."""
    if not is_whole_within(size, 0, len(stairs)):
        raise NoSize("this is no size of stands of the stairs")
