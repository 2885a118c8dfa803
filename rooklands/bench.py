"""A bench: it keeps a board while it is changed."""

from rooklands.boards import MOST_LINES, turned, rest as rest_of
from rooklands.errors import Double, NoDeed, NoPlace, TooMany
from rooklands.lesser import without
from rooklands.most import greatest_size
from rooklands.stands import counts as counts_of
from rooklands.things import is_whole_within


class Bench:
    """A kept board, and the boards that were kept ahead of each deed that stands."""

    def __init__(self):
        self.kept = (1, 1, ())
        self.earlier = []

    def put(self, row, column):
        """Makes a place a cell."""
        refuse_no_place(self.kept, row, column)
        high, wide, cells = self.kept
        if (row, column) in cells:
            raise Double("this cell is there already")
        self.keep((high, wide, tuple(sorted(cells + ((row, column),)))))

    def take(self, row, column):
        """Takes a cell away."""
        refuse_no_place(self.kept, row, column)
        self.keep(without(self.kept, (row, column)))

    def row(self):
        """Puts a row without cells below."""
        high, wide, cells = self.kept
        refuse_too_many(high)
        self.keep((high + 1, wide, cells))

    def column(self):
        """Puts a column without cells to the right."""
        high, wide, cells = self.kept
        refuse_too_many(wide)
        self.keep((high, wide + 1, cells))

    def turn(self):
        """Turns the kept board."""
        self.keep(turned(self.kept))

    def rest(self):
        """Puts the rest in the kept board's place."""
        self.keep(rest_of(self.kept))

    def undo(self):
        """Undoes the last deed that stands."""
        if not self.earlier:
            raise NoDeed("there is no deed to undo")
        self.kept = self.earlier.pop()

    def keep(self, board):
        """Keeps another board, so that the one kept until now can be had again."""
        self.earlier.append(self.kept)
        self.kept = board

    def board(self):
        """The kept board."""
        return self.kept

    def counts(self):
        """The counts of the kept board."""
        return counts_of(self.kept)

    def most(self):
        """How many cells the greatest stands of the kept board have."""
        return greatest_size(self.kept)


def refuse_no_place(board, row, column):
    """Refuses what is no row or no column of the board."""
    if not is_whole_within(row, 0, board[0] - 1):
        raise NoPlace("this is no row of the board")
    if not is_whole_within(column, 0, board[1] - 1):
        raise NoPlace("this is no column of the board")


def refuse_too_many(lines):
    """Refuses one more row or column where there are as many as can be."""
    if lines == MOST_LINES:
        raise TooMany("there are six already")
