"""What the document tells, found by going through everything; nothing here asks the program."""

from itertools import chain, combinations, combinations_with_replacement, permutations, product
from math import comb, factorial


def subsets(things):
    """All rising tuples, perhaps of none, of rising things."""
    things = list(things)
    return list(chain.from_iterable(combinations(things, size) for size in range(len(things) + 1)))


def stands_by_hand(board, size):
    high, wide, cells = board
    found = []
    for rows in combinations(range(high), size):
        for columns in permutations(range(wide), size):
            stand = tuple(zip(rows, columns))
            if all(cell in cells for cell in stand):
                found.append(stand)
    return sorted(found)


def counts_by_hand(board):
    return [len(stands_by_hand(board, size)) for size in range(min(board[:2]) + 1)]


def all_stands_by_hand(board):
    return [stand for size in range(min(board[:2]) + 1) for stand in stands_by_hand(board, size)]


def greatest_by_hand(board):
    """All of the greatest stands."""
    return [stands for size in range(min(board[:2]) + 1) if (stands := stands_by_hand(board, size))][-1]


def all_lines(board):
    return [(rows, columns) for rows in subsets(range(board[0])) for columns in subsets(range(board[1]))]


def is_held(board, lines):
    return all(row in lines[0] or column in lines[1] for row, column in board[2])


def hits_by_hand(board, order):
    return tuple((row, order[row]) for row in range(board[0]) if (row, order[row]) in board[2])


def orders_hitting(board, many):
    return [order for order in permutations(range(board[0])) if len(hits_by_hand(board, order)) == many]


def hit_counts_by_hand(board):
    return [len(orders_hitting(board, many)) for many in range(board[0] + 1)]


def rest_counts_by_hand(high, wide, counts):
    """The sum as the document tells it."""
    return [
        sum(
            (1 if less % 2 == 0 else -1) * counts[less]
            * comb(high - less, size - less) * comb(wide - less, size - less) * factorial(size - less)
            for less in range(size + 1)
        )
        for size in range(len(counts))
    ]


def stair_board_by_hand(stairs):
    cells = {(row, column) for column, many in enumerate(stairs) for row in range(many)}
    return (max(1, stairs[-1]), len(stairs), tuple(sorted(cells)))


def heads_by_hand(stairs):
    return sorted(stairs[place] - place for place in range(len(stairs)))


def tuples_by_heads(columns):
    """All tuples of so many numbers, none less than the one ahead, by their heads; no head of stairs needs more."""
    found = {}
    for numbers in combinations_with_replacement(range(6 + columns), columns):
        found.setdefault(tuple(heads_by_hand(numbers)), []).append(numbers)
    return found


def partings_by_hand(n):
    """All partings of n things, rising, by giving each thing the number of a lot in whatever way."""
    found = set()
    for numbers in product(range(n), repeat=n):
        lots = {}
        for thing, number in enumerate(numbers):
            lots.setdefault(number, []).append(thing)
        found.add(tuple(sorted(tuple(lot) for lot in lots.values())))
    return sorted(found)
