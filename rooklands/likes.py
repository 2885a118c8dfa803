"""Boards that are alike: orders of rows and columns lead the one to the other."""

from rooklands.boards import all_orders, is_order, picked, turned
from rooklands.stands import counts
from rooklands.things import how_many_orders


def is_way(one, other, thing):
    """Whether a thing, whatever it is, is a tuple (rows, columns) of orders by which one board is led to the other."""
    if not isinstance(thing, tuple) or len(thing) != 2:
        return False
    rows, columns = thing
    if not is_order(one[0], rows) or not is_order(one[1], columns):
        return False
    return picked(one, rows, columns) == other


def alike(one, other):
    """How one board is led to the other, or turned and led; else what shows that it is not, if counts do."""
    way = first_way(one, other)
    if way is not None:
        return ("alike", way)
    way = first_way(turned(one), other)
    if way is not None:
        return ("turned", way)
    return unlike(counts(one), counts(other))


def first_way(one, other):
    """The first tuple of orders by which one board is led to the other, None where there is none."""
    if one[:2] != other[:2]:
        return None
    wanted = column_marks(other, tuple(range(other[0])))
    for rows in all_orders(one[0]):
        columns = columns_put(column_marks(one, rows), wanted)
        if columns is not None:
            return (rows, columns)
    return None


def column_marks(board, rows):
    """A number for each column of the board; its bits, the first one highest, are the rows, put in an order."""
    high, wide, cells = board
    marks = [0] * wide
    for row, column in cells:
        marks[column] += 1 << (high - 1 - rows.index(row))
    return marks


def columns_put(marks, wanted):
    """The first order of columns by which their marks are the wanted ones, None where there is none."""
    told = []
    for mark in wanted:
        fitting = [column for column, other in enumerate(marks) if other == mark and column not in told]
        if not fitting:
            return None
        # Columns of the same mark can stand for one another, so the first one is never wrong.
        told.append(fitting[0])
    return tuple(told)


def unlike(mine, theirs):
    """The least size at which two lists of counts are not the same, with the count of each."""
    for size in range(max(len(mine), len(theirs))):
        if count_at(mine, size) != count_at(theirs, size):
            return ("counts", size, count_at(mine, size), count_at(theirs, size))
    return ("none",)


def count_at(told, size):
    """The count of a size, 0 beyond the list."""
    return told[size] if size < len(told) else 0


def name_of(board):
    """The least board to which some orders lead this one."""
    return min([least_by_columns(board, rows) for rows in all_orders(board[0])])


def least_by_columns(board, rows):
    """The least board to which an order of rows and some order of columns lead this one."""
    high = board[0]
    # Cells further above come first, and there those further to the left: so the highest marks go to the left.
    marks = sorted(column_marks(board, rows), reverse=True)
    cells = [
        (place, column)
        for place in range(high)
        for column, mark in enumerate(marks)
        if mark & (1 << (high - 1 - place))
    ]
    return (high, board[1], tuple(cells))


def own_ways(board):
    """How many tuples of orders lead the board to itself."""
    wanted = column_marks(board, tuple(range(board[0])))
    goal = sorted(wanted)
    fitting = [rows for rows in all_orders(board[0]) if sorted(column_marks(board, rows)) == goal]
    told = len(fitting)
    for mark in sorted(set(wanted)):
        # By each fitting order of rows, columns of the same mark can be put in whatever order.
        told *= how_many_orders(wanted.count(mark))
    return told
