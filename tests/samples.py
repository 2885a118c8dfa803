"""What the tests hand in: boards, and things of every kind."""

from itertools import combinations_with_replacement, product
from random import Random


def all_boards(high, wide):
    """All boards of so many rows and columns, built from the document's words alone."""
    places = [(row, column) for row in range(high) for column in range(wide)]
    boards = []
    for taken in product((False, True), repeat=len(places)):
        cells = tuple(place for place, is_taken in zip(places, taken) if is_taken)
        boards.append((high, wide, cells))
    return boards


def small_boards():
    """All boards of at most three rows and columns, but those of nine places."""
    sizes = [(high, wide) for high in (1, 2, 3) for wide in (1, 2, 3) if high * wide < 9]
    return [board for high, wide in sizes for board in all_boards(high, wide)]


def full(high, wide):
    return (high, wide, tuple((row, column) for row in range(high) for column in range(wide)))


def empty(high, wide):
    return (high, wide, ())


LARGE = (6, 6, ((0, 0), (0, 5), (1, 2), (2, 1), (3, 3), (3, 4), (5, 0), (5, 5)))
LONG = (1, 6, ((0, 0), (0, 2), (0, 3)))
TALL = (6, 1, ((1, 0), (2, 0), (5, 0)))
UNEVEN = (2, 3, ((0, 0), (0, 2), (1, 2)))

EDGES = [
    empty(1, 1), full(1, 1), empty(6, 6), full(6, 6), empty(1, 6), full(6, 1),
    empty(6, 1), full(1, 6), LARGE, LONG, TALL, UNEVEN, full(5, 6), full(6, 5),
]


def drawn(seed, high, wide, of_ten):
    """A board with about so many cells of ten places, the same one for the same numbers."""
    source = Random(seed)
    places = [(row, column) for row in range(high) for column in range(wide)]
    return (high, wide, tuple(place for place in places if source.random() * 10 < of_ten))


# Boards of many rows and columns, with few cells and with many.
DRAWN = [
    drawn(seed, high, wide, of_ten)
    for seed, (high, wide) in enumerate([(6, 6), (6, 6), (5, 6), (6, 5), (4, 6), (6, 3), (5, 5)])
    for of_ten in (2, 4, 6, 8)
]

ALL_STAIRS = [
    stairs for columns in range(1, 7) for stairs in combinations_with_replacement(range(7), columns)
]

NO_STAIRS = [
    (), (-1,), (7,), (8,), (-1, 0), (0, 7), (6, 7), (1, 0), (6, 5), (0, 2, 1), (1, 1, 0), (0, 1, 2, 3, 4, 3), (6, 0),
    (0,) * 7, (1, 1, 2, 2, 3, 3, 4), (0, 1, 2, 3, 4, 5, 6), (6,) * 7, (0,) * 120, (10 ** 39,), (-(10 ** 39), 0),
    (0, 10 ** 39), (True,), (False,), (0, True), (False, 1), (True, 2), (True, True), (None,), (0, None), (None, 1),
    ("0",), ("1", "2"), (0, "1"), ("",), ((0,),), ((0, 1),), (0, (1,)), ([0],), (0, [1]), ({},), (0, {}), [0], [0, 1],
    [1, 1, 2], [], {}, {0: 0, 1: 1}, "", "0", "01", "012", None, 0, 1, 12, -1, 10 ** 39, True, False,
]

NO_ORDERS_OF_TWO = [
    (), (0,), (1,), (0, 0), (1, 1), (0, 2), (1, 2), (2, 1), (-1, 0), (0, -1), (0, 1, 2), (0, 1, 1), (1, 0, 0),
    [0, 1], [1, 0], {0: 0, 1: 1}, {0: 1, 1: 0}, "01", "10", None, True, False, 0, 1, 2, 10, (0, True), (False, 1),
    (False, True), (True, False), (True, 0), (1, False), (0, None), (0, "1"), ("0", "1"), (0, (1,)), ((0, 1),),
    ([0], [1]), (0, [1]), (0, {}), (0, 10 ** 39), (None, None), ((), ()), ({}, {}),
]

NO_LINES_OF_UNEVEN = [
    (), ((),), ((), (), ()), ((0,),), [(), ()], [(0,), (1,)], ([], ()), ((), []), ([0], ()), ((), [0]), (0, 0),
    (0, ()), ((), 0), (None, ()), ((), None), ("", ""), ("0", ()), ((), "0"), ({}, ()), ((), {}), ({0: 0}, ()),
    {0: (), 1: ()}, {(): ()}, "", "01", None, 0, 1, True, False,
    ((2,), ()), ((), (3,)), ((-1,), ()), ((), (-1,)), ((0, 2), ()), ((), (0, 3)), ((-1, 0), ()), ((), (-1, 0)),
    ((0, 0), ()), ((), (0, 0)), ((1, 0), ()), ((), (1, 0)), ((), (0, 2, 1)), ((), (0, 1, 1)), ((), (2, 0)),
    ((True,), ()), ((False,), ()), ((), (True,)), ((), (False,)), ((), (0, True)), ((), (False, 2)),
    ((None,), ()), ((), (None,)), (("0",), ()), ((), ("0",)), (((0,),), ()), ((), ((0,),)), (([0],), ()),
    ((), (0, None)), ((), (0, "1")), ((0, "1"), ()), ((10 ** 39,), ()), ((), (-(10 ** 39),)), ((0, []), ()),
]


def deep(bottom, wrap):
    """A thing five deep."""
    thing = bottom
    for _ in range(5):
        thing = wrap(thing)
    return thing


def odd_things():
    """Things of every kind that the document names as anything; new ones with each call."""
    return [
        0, 1, 2, 6, 7, -1, 10 ** 39, -(10 ** 39), True, False, None,
        "", "0", "#", "board", "rows and columns " * 2,
        [], [0], [0, 1], [True, None, "a"], [[], [[]]], list(range(120)),
        (), (0,), (1, 0), (0, 0), ((),), ((), ()), (((),),), (None,), ("",), ("01",), (0, "1"),
        ([],), ([], []), ([0], [0]), ({},), ({}, {}), (True,), (False, True), tuple(range(120)),
        {}, {0: 0, 1: 1}, {"high": 1}, {(0, 1): []}, {0: {1: {2: {}}}}, {None: None},
        deep(0, lambda thing: [thing]), deep(0, lambda thing: (thing,)), deep(0, lambda thing: {1: thing}),
        (1, 1), (1, 1, 1), (1, 1, None), (1, 1, "()"), (1, 1, []), (1, 1, {}), (None, None, None),
        ("1", "1", ()), ([], [], []), ({}, {}, {}), ((), (), ()),
    ]
