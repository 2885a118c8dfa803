"""What the document tells, found by going through everything; nothing here asks the program."""

from itertools import chain, combinations, combinations_with_replacement, permutations, product
from math import comb, factorial


def subsets(things):
    """All rising tuples, perhaps of none, of rising things."""
    things = list(things)
    return list(chain.from_iterable(combinations(things, size) for size in range(len(things) + 1)))


def stands_by_hand(board, size):
    high, wide, cells = board
    found = []
    for rows in combinations(range(high), size):
        for columns in permutations(range(wide), size):
            stand = tuple(zip(rows, columns))
            if all(cell in cells for cell in stand):
                found.append(stand)
    return sorted(found)


def counts_by_hand(board):
    return [len(stands_by_hand(board, size)) for size in range(min(board[:2]) + 1)]


def all_stands_by_hand(board):
    return [stand for size in range(min(board[:2]) + 1) for stand in stands_by_hand(board, size)]


def greatest_by_hand(board):
    """All of the greatest stands."""
    return [stands for size in range(min(board[:2]) + 1) if (stands := stands_by_hand(board, size))][-1]


def all_lines(board):
    return [(rows, columns) for rows in subsets(range(board[0])) for columns in subsets(range(board[1]))]


def is_held(board, lines):
    return all(row in lines[0] or column in lines[1] for row, column in board[2])


def hits_by_hand(board, order):
    return tuple((row, order[row]) for row in range(board[0]) if (row, order[row]) in board[2])


def orders_hitting(board, many):
    return [order for order in permutations(range(board[0])) if len(hits_by_hand(board, order)) == many]


def hit_counts_by_hand(board):
    return [len(orders_hitting(board, many)) for many in range(board[0] + 1)]


def rest_counts_by_hand(high, wide, counts):
    """The sum as the document tells it."""
    return [
        sum(
            (1 if less % 2 == 0 else -1) * counts[less]
            * comb(high - less, size - less) * comb(wide - less, size - less) * factorial(size - less)
            for less in range(size + 1)
        )
        for size in range(len(counts))
    ]


def stair_board_by_hand(stairs):
    cells = {(row, column) for column, many in enumerate(stairs) for row in range(many)}
    return (max(1, stairs[-1]), len(stairs), tuple(sorted(cells)))


def heads_by_hand(stairs):
    return sorted(stairs[place] - place for place in range(len(stairs)))


def tuples_by_heads(columns):
    """All tuples of so many numbers, none less than the one ahead, by their heads; no head of stairs needs more."""
    found = {}
    for numbers in combinations_with_replacement(range(6 + columns), columns):
        found.setdefault(tuple(heads_by_hand(numbers)), []).append(numbers)
    return found


def partings_by_hand(n):
    """All partings of n things, rising, by giving each thing the number of a lot in whatever way."""
    found = set()
    for numbers in product(range(n), repeat=n):
        lots = {}
        for thing, number in enumerate(numbers):
            lots.setdefault(number, []).append(thing)
        found.add(tuple(sorted(tuple(lot) for lot in lots.values())))
    return sorted(found)


def left_by_hand(stairs, stand):
    """The cells left, as the document tells it."""
    left = []
    for row, column in stair_board_by_hand(stairs)[2]:
        below = any(other_column == column and other_row > row for other_row, other_column in stand)
        ahead = any(other_row == row and other_column < column for other_row, other_column in stand)
        if (row, column) not in stand and not below and not ahead:
            left.append((row, column))
    return tuple(left)


def by_weight_by_hand(stairs, size):
    board = stair_board_by_hand(stairs)
    weights = [len(left_by_hand(stairs, stand)) for stand in stands_by_hand(board, size)]
    return [weights.count(weight) for weight in range(len(board[2]) + 1)]


def led_by_hand(board, rows, columns):
    """Each cell goes to the place that its row and its column have in the orders."""
    high, wide, cells = board
    return (high, wide, tuple(sorted((rows.index(row), columns.index(column)) for row, column in cells)))


def ways_by_hand(one, other):
    """All tuples of orders by which one board is led to the other, rising."""
    if one[:2] != other[:2]:
        return []
    found = []
    wanted = [frozenset(row for row, at in other[2] if at == column) for column in range(other[1])]
    for rows in permutations(range(one[0])):
        put = [frozenset(rows.index(row) for row, at in one[2] if at == column) for column in range(one[1])]
        for columns in permutations(range(one[1])):
            if all(put[column] == sign for column, sign in zip(columns, wanted)):
                found.append((rows, columns))
    return found


def all_alike(board):
    """All boards to which orders lead this one, by exchanging two rows or two columns again and again."""
    high, wide, cells = board
    found, new = {cells}, [cells]
    while new:
        cells = new.pop()
        for at in range(high - 1):
            exchanged = {at: at + 1, at + 1: at}
            led = tuple(sorted((exchanged.get(row, row), column) for row, column in cells))
            if led not in found:
                found.add(led)
                new.append(led)
        for at in range(wide - 1):
            exchanged = {at: at + 1, at + 1: at}
            led = tuple(sorted((row, exchanged.get(column, column)) for row, column in cells))
            if led not in found:
                found.add(led)
                new.append(led)
    return {(high, wide, cells) for cells in found}


def alike_by_hand(one, other):
    """What the document tells of two boards, by going through all orders."""
    ways = ways_by_hand(one, other)
    if ways:
        return ("alike", ways[0])
    ways = ways_by_hand((one[1], one[0], tuple(sorted((column, row) for row, column in one[2]))), other)
    if ways:
        return ("turned", ways[0])
    mine, theirs = counts_by_hand(one), counts_by_hand(other)
    longer = max(len(mine), len(theirs))
    mine, theirs = mine + [0] * (longer - len(mine)), theirs + [0] * (longer - len(theirs))
    for size in range(longer):
        if mine[size] != theirs[size]:
            return ("counts", size, mine[size], theirs[size])
    return ("none",)


class BenchByHand:
    """A board as rows of signs, and all that it was ahead of each deed."""

    def __init__(self):
        self.rows = ["."]
        self.behind = []

    def set_sign(self, row, column, sign):
        self.behind.append(self.rows)
        signs = self.rows[row]
        changed = signs[:column] + sign + signs[column + 1:]
        self.rows = self.rows[:row] + [changed] + self.rows[row + 1:]

    def do(self, deed, *place):
        """Does a deed, unless it is refused; told is the refusal's name, None where it is done."""
        high, wide = len(self.rows), len(self.rows[0])
        if deed in ("put", "take"):
            row, column = place
            if not (0 <= row < high and 0 <= column < wide):
                return "NoPlace"
            is_cell = self.rows[row][column] == "#"
            if is_cell == (deed == "put"):
                return "Double" if is_cell else "NoCell"
            self.set_sign(row, column, "#" if deed == "put" else ".")
        elif deed == "undo":
            if not self.behind:
                return "NoDeed"
            self.rows = self.behind.pop()
        elif deed in ("row", "column") and (high if deed == "row" else wide) == 6:
            return "TooMany"
        else:
            self.behind.append(self.rows)
            self.rows = {
                "row": lambda: self.rows + ["." * wide],
                "column": lambda: [signs + "." for signs in self.rows],
                "turn": lambda: ["".join(signs[column] for signs in self.rows) for column in range(wide)],
                "rest": lambda: ["".join("#" if sign == "." else "." for sign in signs) for signs in self.rows],
            }[deed]()
        return None

    def board(self):
        high, wide = len(self.rows), len(self.rows[0])
        places = [(row, column) for row in range(high) for column in range(wide)]
        return (high, wide, tuple((row, column) for row, column in places if self.rows[row][column] == "#"))

    def text(self):
        return "/".join(self.rows)
