"""Partings of things into lots, as stands of rooks on steps."""

from rooklands.boards import MOST_LINES, is_numbers_rising
from rooklands.errors import NoNumber, NoParting, NoSize, NoStand
from rooklands.stands import is_stand, stands_of
from rooklands.things import is_rising, is_whole_within


def is_parting(n, thing):
    """Whether a thing, whatever it is, is a parting of n things."""
    refuse_no_number(n)
    if not isinstance(thing, tuple) or not all([is_lot(n, part) for part in thing]):
        return False
    parted = sorted([number for lot in thing for number in lot])
    return parted == list(range(n)) and is_rising([lot[0] for lot in thing])


def is_lot(n, thing):
    """Whether a thing is a rising tuple of one or more of n things."""
    return is_numbers_rising(n, thing) and len(thing) > 0


def refuse_no_number(n):
    """Refuses what can't be how many things are parted."""
    if not is_whole_within(n, 1, MOST_LINES):
        raise NoNumber("so many things are not parted")


def steps(n):
    """The steps of n: the board of n rows and columns with the cells below the diagonal."""
    refuse_no_number(n)
    return (n, n, tuple([(row, column) for row in range(n) for column in range(row)]))


def parting_of(n, stand):
    """The parting of n things in which those of each cell of a stand of the steps are next to one another."""
    if not is_stand(steps(n), stand):
        raise NoStand("this is no stand of the steps")
    ahead = {row: column for row, column in stand}
    lots = []
    for thing in range(n):
        if thing in ahead:
            # No other thing comes behind the one ahead, for no two cells are in one column.
            lots = [lot + (thing,) if lot[-1] == ahead[thing] else lot for lot in lots]
        else:
            lots.append((thing,))
    return tuple(lots)


def stand_of(n, parting):
    """The stand of the steps of n that has a parting."""
    if not is_parting(n, parting):
        raise NoParting("this is no parting of so many things")
    cells = [(thing, ahead) for lot in parting for ahead, thing in zip(lot, lot[1:])]
    return tuple(sorted(cells))


def partings(n, many):
    """All partings of n things into so many lots, rising."""
    board = steps(n)
    if not is_whole_within(many, 1, n):
        raise NoSize("there are no partings into so many lots")
    # Each cell of a stand makes one lot fewer; there are at most 90 such stands, so none too many.
    return sorted([parting_of(n, stand) for stand in stands_of(board, n - many)])
