"""The heads of stairs, the counts and products that come of them, and the stairs that have the same ones."""

from rooklands.boards import all_orders
from rooklands.errors import NoNumber, NotAlike
from rooklands.stairs import refuse_no_stairs
from rooklands.things import is_never_falling, is_whole_within

MOST_TAKEN = 10 ** 9


def heads(stairs):
    """The heads of stairs, the lesser ones ahead."""
    refuse_no_stairs(stairs)
    return sorted([number - place for place, number in enumerate(stairs)])


def head_counts(stairs):
    """The counts of the board of stairs, by their numbers alone, for each size from 0 to how many columns there are."""
    refuse_no_stairs(stairs)
    told = [1]
    for number in stairs:
        told = counts_with_column(told, number)
    return told


def counts_with_column(told, number):
    """The counts with a column more, whose number is not less than those of the columns counted so far."""
    # All rooks that stand already are in rows that this column has, too, so each of them takes one of its cells.
    with_rook = [many * (number - size) for size, many in enumerate(told)]
    return [many + more for many, more in zip(told + [0], [0] + with_rook)]


def product_at(stairs, number):
    """A number and a head together, for each head, all multiplied."""
    refuse_no_stairs(stairs)
    if not is_whole_within(number, 0, MOST_TAKEN):
        raise NoNumber("this is no number from 0 to 10 ** 9")
    told = 1
    for head in heads(stairs):
        told *= number + head
    return told


def same_counts(one, other):
    """Whether two stairs of as many columns have the same counts."""
    refuse_no_stairs(one)
    refuse_no_stairs(other)
    if len(one) != len(other):
        raise NotAlike("the stairs have not as many columns")
    return heads(one) == heads(other)


def all_stairs(stairs):
    """All tuples of numbers from 0 on, none less than the one ahead, that have the heads of stairs, rising."""
    put = heads(stairs)
    found = {numbers_by(put, order) for order in all_orders(len(stairs))}
    return [numbers for numbers in sorted(found) if numbers[0] >= 0 and is_never_falling(numbers)]


def numbers_by(put, order):
    """The numbers that have these heads, put in an order."""
    return tuple([put[at] + place for place, at in enumerate(order)])


def risen(stairs):
    """That one of all_stairs in which each number but 0 is greater than the one ahead."""
    return [numbers for numbers in all_stairs(stairs) if is_risen(numbers)][0]


def is_risen(numbers):
    """Whether each number but 0 is greater than the one ahead."""
    return all([other == 0 or one < other for one, other in zip(numbers, numbers[1:])])
