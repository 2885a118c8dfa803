"""What the other modules ask of things of whatever kind, and how many orders and sets there are."""


def is_whole(thing):
    """Whether a thing is a whole number; to Python a truth is an int, too, but here it is none."""
    return isinstance(thing, int) and not isinstance(thing, bool)


def is_whole_within(thing, least, most):
    """Whether a thing is a whole number from least to most."""
    return is_whole(thing) and least <= thing <= most


def is_rising(things):
    """Whether each of things that can be compared is greater than the one ahead."""
    return all([one < other for one, other in zip(things, things[1:])])


def is_never_falling(things):
    """Whether none of things that can be compared is less than the one ahead."""
    return all([one <= other for one, other in zip(things, things[1:])])


def how_many_orders(many):
    """How many orders so many things have."""
    told = 1
    for number in range(many):
        told *= number + 1
    return told


def how_many_sets(many, size):
    """How many sets of a size there are of so many things; none where the size is beyond."""
    told = 1
    for number in range(size):
        told = told * (many - number) // (number + 1)
    return told
