"""Orders of a square board and the cells that they hit, and hits and counts by numbers alone."""

from rooklands.boards import all_orders, is_order
from rooklands.errors import NoCounts, NoHits, NoNumber, NoOrder, NotSquare
from rooklands.things import how_many_orders, how_many_sets, is_whole, is_whole_within

LEAST_NUMBERS = 2
MOST_NUMBERS = 13


def hits_of(board, order):
    """The cells of a square board that an order hits."""
    refuse_not_square(board)
    refuse_no_order(board, order)
    return cells_hit(board, order)


def hit_counts(board):
    """How many orders of a square board hit just so many cells, for each number from 0 on."""
    refuse_not_square(board)
    told = [0] * (board[0] + 1)
    for order in all_orders(board[0]):
        told[len(cells_hit(board, order))] += 1
    return told


def first_hitting(board, many):
    """The first order of a square board that hits just so many cells, None where there is none."""
    refuse_not_square(board)
    refuse_no_number(board, many)
    return first_of(board, all_orders(board[0]), many)


def next_hitting(board, order, many):
    """The next order behind an order that hits just so many cells, None where there is none."""
    refuse_not_square(board)
    refuse_no_order(board, order)
    refuse_no_number(board, many)
    return first_of(board, [other for other in all_orders(board[0]) if other > order], many)


def refuse_not_square(board):
    """Refuses a board that has not as many rows as columns."""
    if board[0] != board[1]:
        raise NotSquare("the board has not as many rows as columns")


def refuse_no_order(board, order):
    """Refuses what is no order of a square board."""
    if not is_order(board[0], order):
        raise NoOrder("this is no order of the board")


def refuse_no_number(board, many):
    """Refuses what can't be how many cells an order of a square board hits."""
    if not is_whole_within(many, 0, board[0]):
        raise NoNumber("this is no number from 0 to the board's rows")


def cells_hit(board, order):
    """The cells of a square board that an order, known to be one, hits."""
    return tuple([(row, column) for row, column in enumerate(order) if (row, column) in board[2]])


def first_of(board, orders, many):
    """The first of these orders that hits just so many cells, None where there is none."""
    for order in orders:
        if len(cells_hit(board, order)) == many:
            return order
    return None


def hits_by(counts):
    """The hits of a square board that has these counts."""
    if not is_numbers(counts) or counts[0] != 1 or min(counts) < 0:
        raise NoCounts("these can't be the counts of a square board")
    high = len(counts) - 1
    # At each size, all orders through each stand of it: an order that hits more cells comes more than once.
    through = [count * how_many_orders(high - size) for size, count in enumerate(counts)]
    return [hits_at(through, many) for many in range(high + 1)]


def hits_at(through, many):
    """How many orders hit just so many cells; through has at each size all orders through each stand of it."""
    told = 0
    sign = 1
    for size in range(many, len(through)):
        told += sign * how_many_sets(size, many) * through[size]
        # What is counted more than once at one size is taken away at the next one, and so on.
        sign = -sign
    return told


def counts_by(hits):
    """The counts of a square board that has these hits, None where they are no whole numbers."""
    if not is_numbers(hits):
        raise NoHits("these can't be the hits of a square board")
    high = len(hits) - 1
    told = []
    for size in range(high + 1):
        through = sum([how_many_sets(many, size) * number for many, number in enumerate(hits)])
        count, over = divmod(through, how_many_orders(high - size))
        if over != 0:
            return None
        told.append(count)
    return told


def is_numbers(thing):
    """Whether a thing is a list of as many whole numbers as are taken by numbers alone."""
    if not isinstance(thing, list) or not LEAST_NUMBERS <= len(thing) <= MOST_NUMBERS:
        return False
    return all([is_whole(part) for part in thing])
