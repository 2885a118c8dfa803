"""Stands: rooks on cells of a board, no two of them in one row or one column."""

from rooklands.boards import is_cells
from rooklands.errors import NoNumber, NoSize, NoStand, TooMany
from rooklands.things import is_whole_within

MOST_TOLD = 300


def is_stand(board, thing):
    """Whether a thing, whatever it is, is a stand of the board."""
    high, wide, cells = board
    if not is_cells(high, wide, thing):
        return False
    return all([cell in cells for cell in thing]) and are_apart(thing)


def are_apart(cells):
    """Whether no two of these cells are in one row or one column."""
    rows = [row for row, column in cells]
    columns = [column for row, column in cells]
    return len(set(rows)) == len(rows) and len(set(columns)) == len(columns)


def counts(board):
    """How many stands the board has, for each size from 0 on."""
    return ways_to_go_on(board)[0][0][:most_size(board) + 1]


def most_size(board):
    """The size beyond which no board of so many rows and columns has a stand."""
    return min(board[0], board[1])


def stands_of(board, size):
    """All stands of a size, rising."""
    refuse_no_size(board, size)
    if counts(board)[size] > MOST_TOLD:
        raise TooMany("there are too many stands of this size")
    return every_stand(board, size)


def every_stand(board, size):
    """All stands of a size, however many there are, rising."""
    stands = [()]
    for step in range(size):
        stands = [stand + (cell,) for stand in stands for cell in followers(board, stand)]
    return stands


def stand_at(board, size, number):
    """The stand of a size that has a number."""
    refuse_no_size(board, size)
    table = ways_to_go_on(board)
    if not is_whole_within(number, 0, table[0][0][size] - 1):
        raise NoNumber("no stand of this size has this number")
    stand = ()
    left = number
    for more in reversed(range(size)):
        cell, left = cell_at(board, table, stand, more, left)
        stand = stand + (cell,)
    return stand


def number_of(board, stand):
    """The number of a stand among those of its size."""
    if not is_stand(board, stand):
        raise NoStand("this is no stand of the board")
    table = ways_to_go_on(board)
    number = 0
    for at, cell in enumerate(stand):
        start = stand[:at]
        more = len(stand) - at - 1
        lesser = [other for other in followers(board, start) if other < cell]
        number += sum([ways_behind(table, start + (other,), more) for other in lesser])
    return number


def next_stand(board, stand):
    """The stand of the next number and the same size, None behind the last."""
    number = number_of(board, stand) + 1
    size = len(stand)
    if number == counts(board)[size]:
        return None
    return stand_at(board, size, number)


def refuse_no_size(board, size):
    """Refuses what is no size of stands of the board."""
    if not is_whole_within(size, 0, most_size(board)):
        raise NoSize("this is no size of stands of the board")


def followers(board, start):
    """The cells that can stand next behind the last cell of a stand."""
    row = row_behind(start)
    taken = [cell[1] for cell in start]
    return [cell for cell in board[2] if cell[0] >= row and cell[1] not in taken]


def row_behind(start):
    """The first row below all cells of a stand."""
    return start[-1][0] + 1 if start else 0


def cell_at(board, table, start, more, number):
    """The next cell behind a start, in the stand that has the number among those that go on from the start.

    They have the next cell and so many more. Told with the cell is the number among those that go on from it.
    """
    cells = followers(board, start)
    at = 0
    ways = ways_behind(table, start + (cells[at],), more)
    while number >= ways:
        number -= ways
        at += 1
        ways = ways_behind(table, start + (cells[at],), more)
    return cells[at], number


def ways_behind(table, start, more):
    """In how many ways so many more cells can stand behind a start."""
    taken = sum([1 << column for row, column in start])
    return table[row_behind(start)][taken][more]


def ways_to_go_on(board):
    """A table that has at [row][taken][more] in how many ways so many more rooks can stand.

    They stand in this row or below, in columns that are not taken. The columns taken are the bits of a number, so
    that it can be a place in a list; going through the lots of columns is far shorter than through the stands.
    """
    high, wide, cells = board
    table = [[[1] + [0] * high for taken in range(1 << wide)]]
    for row in reversed(range(high)):
        columns = [column for at, column in cells if at == row]
        table.insert(0, [ways_with_row(table[0], columns, taken) for taken in range(1 << wide)])
    return table


def ways_with_row(below, columns, taken):
    """What stands in the table at a row and the columns taken; below is the table's next row."""
    ways = list(below[taken])
    for column in columns:
        bit = 1 << column
        if not taken & bit:
            for size, many in enumerate(below[taken | bit][:-1]):
                ways[size + 1] += many
    return ways
