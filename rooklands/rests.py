"""Counts by numbers alone: those of the rest of a board, and those of a board all places of which are cells."""

from rooklands.errors import NoCounts, NoSize
from rooklands.things import how_many_orders, how_many_sets, is_whole, is_whole_within

MOST_COUNTED_LINES = 12


def is_counts(high, wide, thing):
    """Whether a thing, whatever it is, is a row of counts of so many rows and columns."""
    refuse_no_sizes(high, wide)
    if not isinstance(thing, list) or len(thing) != min(high, wide) + 1:
        return False
    return all([is_whole(part) and part >= 0 for part in thing]) and thing[0] == 1


def rest_counts(high, wide, counts):
    """The rest counts of a row of counts; there may be numbers below 0."""
    if not is_counts(high, wide, counts):
        raise NoCounts("this is no row of counts of so many rows and columns")
    return [rest_count(high, wide, counts, size) for size in range(len(counts))]


def rests_well(high, wide, counts):
    """Whether the rest counts of a row of counts are one, too."""
    return is_counts(high, wide, rest_counts(high, wide, counts))


def full_counts(high, wide):
    """The counts of the board of so many rows and columns all places of which are cells."""
    refuse_no_sizes(high, wide)
    return [full_count(high, wide, size) for size in range(min(high, wide) + 1)]


def refuse_no_sizes(high, wide):
    """Refuses what can't be how many rows or columns are counted."""
    if not is_whole_within(high, 1, MOST_COUNTED_LINES):
        raise NoSize("so many rows are not counted")
    if not is_whole_within(wide, 1, MOST_COUNTED_LINES):
        raise NoSize("so many columns are not counted")


def rest_count(high, wide, counts, size):
    """What the rest counts have at a size."""
    told = 0
    sign = 1
    for less in range(size + 1):
        # Stands on whatever places, with so many rooks picked that are on the board's own cells: added and taken away
        # by turns, just those are left that have no such rook.
        told += sign * counts[less] * full_count(high - less, wide - less, size - less)
        sign = -sign
    return told


def full_count(high, wide, size):
    """How many stands of a size there are where all places of so many rows and columns are cells."""
    return how_many_sets(high, size) * how_many_sets(wide, size) * how_many_orders(size)
