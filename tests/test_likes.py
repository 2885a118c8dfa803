"""Promises 32 to 34, with 2 where it bears on them: ways that lead, boards alike or not, names and own ways."""

import unittest
from itertools import permutations
from math import factorial

from asking import Asking
from oracles import all_alike, alike_by_hand, led_by_hand, ways_by_hand
from rooklands.boards import is_board, rest, turned
from rooklands.likes import alike, is_way, name_of, own_ways
from rooklands.texts import read
from samples import (
    DRAWN, EDGES, LARGE, LONG, NO_ORDERS_OF_TWO, TALL, UNEVEN, all_boards, drawn, empty, full, odd_things, small_boards,
)

SIX = (0, 1, 2, 3, 4, 5)
DIAGONAL = (6, 6, tuple((at, at) for at in SIX))
STEPS = (6, 6, tuple((row, column) for row in SIX for column in range(row)))
# Three cells in each row and each column, all around.
ROUND = (6, 6, tuple((row, column) for row in SIX for column in SIX if (row - column) % 6 in (0, 1, 3)))
OTHER_ROUND = (6, 6, tuple((row, column) for row in SIX for column in SIX if (row - column) % 6 in (0, 1, 2)))
TINY = [board for high in (1, 2) for wide in (1, 2) for board in all_boards(high, wide)]
MIDDLE = [
    drawn(seed, high, wide, of_ten)
    for seed, (high, wide, of_ten) in enumerate(
        [(4, 4, 3), (4, 4, 5), (4, 4, 7), (3, 5, 5), (5, 3, 5), (2, 6, 5), (6, 2, 5), (4, 3, 4), (3, 4, 6), (1, 6, 5)],
        start=40,
    )
]

# Of UNEVEN, the board #.#/..#, to itself led by ((1, 0), (2, 0, 1)).
UNEVEN_LED = (2, 3, ((0, 0), (1, 0), (1, 1)))
NO_WAYS = [
    (), ((),), ((), ()), ((1, 0),), ((1, 0), (2, 0, 1), ()), ((1, 0), (2, 0, 1), (0,)), [(1, 0), (2, 0, 1)],
    ([1, 0], (2, 0, 1)), ((1, 0), [2, 0, 1]), ([1, 0], [2, 0, 1]), ((2, 0, 1), (1, 0)), ((True, 0), (2, 0, 1)),
    ((1, False), (2, 0, 1)), ((True, False), (2, 0, 1)), ((1, 0), (2, False, 1)), ((1, 0), (2, 0, True)), (None, None),
    ((1, 0), None), (None, (2, 0, 1)), ("10", "201"), ((1, 0), "201"), ((1, 0), (2, 0)), ((1, 0), (2, 0, 1, 3)),
    ((1, 0, 2), (2, 0, 1)), ((1,), (2, 0, 1)), ((1, 1), (2, 0, 1)), ((1, 0), (2, 0, 0)), ((1, 0), (2, 2, 1)),
    ((2, 0), (2, 0, 1)), ((1, -1), (2, 0, 1)), ((1, 0), (2, 0, -2)), ((1, 0), (3, 0, 1)), ((1, 0), (-1, 0, 1)),
    ((1, 0), (2, 0, 10 ** 39)), ((1, "0"), (2, 0, 1)), ((1, None), (2, 0, 1)), ((1, (0,)), (2, 0, 1)), (1, 0), (1, 2),
    ((1, 0), (2, [], 1)), ((1, 0), {}), ({1: 1, 0: 0}, (2, 0, 1)), {(1, 0): (2, 0, 1)}, {0: (1, 0), 1: (2, 0, 1)},
    {}, [], "", "10/201", None, 0, 1, True, False, 10 ** 39, (((1, 0), (2, 0, 1)),), ("alike", ((1, 0), (2, 0, 1))),
]


class IsWayTest(Asking):
    def test_known_boards(self):
        self.tell(True, is_way, UNEVEN, UNEVEN_LED, ((1, 0), (2, 0, 1)))
        self.tell(False, is_way, UNEVEN, UNEVEN_LED, ((0, 1), (2, 0, 1)))
        self.tell(False, is_way, UNEVEN, UNEVEN_LED, ((1, 0), (0, 2, 1)))
        self.tell(False, is_way, UNEVEN_LED, UNEVEN, ((1, 0), (2, 0, 1)))
        self.tell(True, is_way, UNEVEN_LED, UNEVEN, ((1, 0), (1, 2, 0)))
        self.tell(True, is_way, UNEVEN, UNEVEN, ((0, 1), (0, 1, 2)))
        self.tell(True, is_way, full(1, 1), full(1, 1), ((0,), (0,)))
        self.tell(False, is_way, full(1, 1), empty(1, 1), ((0,), (0,)))
        self.tell(True, is_way, full(6, 6), full(6, 6), ((3, 1, 2, 0, 5, 4), (5, 4, 3, 2, 1, 0)))
        self.tell(True, is_way, DIAGONAL, DIAGONAL, ((3, 1, 2, 0, 5, 4), (3, 1, 2, 0, 5, 4)))
        self.tell(False, is_way, DIAGONAL, DIAGONAL, ((1, 2, 0, 3, 5, 4), (2, 0, 1, 3, 5, 4)))

    def test_all_orders(self):
        for board in TINY + all_boards(2, 3)[::5] + all_boards(3, 3)[::29] + [drawn(8, 3, 4, 5)]:
            high, wide = board[:2]
            for rows in permutations(range(high)):
                for columns in permutations(range(wide)):
                    led = led_by_hand(board, rows, columns)
                    self.tell(True, is_way, board, led, (rows, columns))
                    self.tell(led == board, is_way, board, board, (rows, columns))
                    self.tell(False, is_way, board, led, [rows, columns])
                    self.tell(led_by_hand(led, rows, columns) == board, is_way, led, board, (rows, columns))

    def test_no_ways(self):
        for thing in NO_WAYS:
            self.tell(False, is_way, UNEVEN, UNEVEN_LED, thing)
        for order in NO_ORDERS_OF_TWO:
            self.tell(False, is_way, full(2, 2), full(2, 2), (order, (0, 1)))
            self.tell(False, is_way, full(2, 2), full(2, 2), ((0, 1), order))

    def test_anything(self):
        for thing in odd_things():
            for board in (empty(1, 1), full(1, 1), UNEVEN, full(2, 2), empty(6, 6), full(6, 6)):
                self.tell(False, is_way, board, board, thing)
            self.tell(repr(thing) == "(0,)", is_way, full(1, 1), full(1, 1), ((0,), thing))
            self.tell(repr(thing) == "(0,)", is_way, full(1, 1), full(1, 1), (thing, (0,)))

    def test_boards_of_other_rows_or_columns(self):
        for one, other in (
            (empty(1, 1), empty(1, 2)), (empty(1, 1), empty(2, 1)), (empty(2, 3), empty(3, 2)),
            (UNEVEN, turned(UNEVEN)), (LONG, TALL), (empty(6, 6), empty(6, 5)), (full(1, 2), full(2, 1)),
            (read("#."), read("#..")),
        ):
            for rows in permutations(range(one[0])):
                for columns in list(permutations(range(one[1])))[::37]:
                    self.tell(False, is_way, one, other, (rows, columns))
            for rows in permutations(range(other[0])):
                for columns in list(permutations(range(other[1])))[::37]:
                    self.tell(False, is_way, one, other, (rows, columns))


class AlikeTest(Asking):
    def test_known_boards(self):
        for one, other, wanted in (
            (".", ".", ("alike", ((0,), (0,)))), ("#", "#", ("alike", ((0,), (0,)))), (".", "#", ("counts", 1, 0, 1)),
            ("#", ".", ("counts", 1, 1, 0)), ("#.", ".#", ("alike", ((0,), (1, 0)))),
            ("#.", "#/.", ("turned", ((0, 1), (0,)))),
            ("#.", "./#", ("turned", ((1, 0), (0,)))), ("##/..", "#./#.", ("turned", ((0, 1), (0, 1)))),
            ("##/..", "../##", ("alike", ((1, 0), (0, 1)))), ("##/..", ".#/.#", ("turned", ((0, 1), (1, 0)))),
            ("#./.#", "##/..", ("counts", 2, 1, 0)), ("##/..", "#./.#", ("counts", 2, 0, 1)), (".", "..", ("none",)),
            (".", "./.", ("none",)), ("#", "#.", ("none",)), ("#.", "#..", ("none",)),
            ("##/##", "#./##/##", ("counts", 1, 4, 5)),
            ("##/##", "##/.#/.#", ("none",)), ("##/.#/.#", "##/##", ("none",)), ("#", "##/##", ("counts", 1, 1, 4)),
            ("##/##", "#", ("counts", 1, 4, 1)), ("#./.#", "#", ("counts", 1, 2, 1)),
            ("##", "#./.#", ("counts", 2, 0, 1)), ("#./.#", "##", ("counts", 2, 1, 0)),
            ("#/#", "#./.#", ("counts", 2, 0, 1)),
            (".../..#/###", ".../.##/.##", ("none",)), (".../.##/###", "..#/..#/###", ("none",)),
            ("..#/..#/###", "..#/.##/.##", ("none",)),
            (".../.##/###", "..#/.##/.##", ("turned", ((0, 1, 2), (0, 1, 2)))),
            (".../##./###", "..#/.##/.##", ("turned", ((2, 0, 1), (0, 1, 2)))),
            ("#.#/..#", "#../##.", ("alike", ((1, 0), (2, 0, 1)))),
        ):
            self.tell(wanted, alike, read(one), read(other))
        self.tell_soon(("alike", (SIX, SIX)), alike, full(6, 6), full(6, 6))
        self.tell_soon(("alike", (SIX, SIX)), alike, empty(6, 6), empty(6, 6))
        self.tell_soon(("counts", 1, 0, 36), alike, empty(6, 6), full(6, 6))
        self.tell_soon(("counts", 1, 36, 30), alike, full(6, 6), full(5, 6))
        self.tell_soon(("turned", (SIX, (0, 1, 2, 3, 4))), alike, full(5, 6), full(6, 5))
        self.tell_soon(("none",), alike, empty(6, 6), empty(1, 1))

    def test_all_pairs_of_tiny_boards(self):
        for one in TINY:
            for other in TINY:
                self.tell(alike_by_hand(one, other), alike, one, other)

    def test_pairs_of_small_boards(self):
        boards = all_boards(2, 3) + all_boards(3, 2) + all_boards(1, 3) + all_boards(3, 1)
        kinds = {"alike": 0, "turned": 0, "counts": 0, "none": 0}
        for at, one in enumerate(boards):
            for other in boards[at % 5::5]:
                wanted = alike_by_hand(one, other)
                kinds[wanted[0]] += 1
                self.assertEqual(repr(alike(one, other)), repr(wanted), (one, other))
        self.assertGreater(min(kinds.values()), 20)

    def test_pairs_of_square_boards(self):
        boards = all_boards(3, 3)
        kinds = {"alike": 0, "turned": 0, "counts": 0, "none": 0}
        for at, one in enumerate(boards):
            for other in boards[at % 71::71]:
                wanted = alike_by_hand(one, other)
                kinds[wanted[0]] += 1
                self.assertEqual(repr(alike(one, other)), repr(wanted), (one, other))
            # Boards of as many cells are seldom unlike at the first size.
            for other in [board for board in boards if len(board[2]) == len(one[2])][at % 23::23]:
                wanted = alike_by_hand(one, other)
                kinds[wanted[0]] += 1
                self.assertEqual(repr(alike(one, other)), repr(wanted), (one, other))
        self.assertGreater(min(kinds.values()), 20)

    def test_middle_boards(self):
        for one in MIDDLE:
            high, wide = one[:2]
            led = led_by_hand(one, tuple(range(high))[::-1], tuple(range(1, wide)) + (0,))
            for other in (one, led, turned(one), turned(led), rest(one), empty(wide, high)) + tuple(MIDDLE[:3]):
                self.tell(alike_by_hand(one, other), alike, one, other)

    def test_large_boards(self):
        led = led_by_hand(ROUND, (4, 2, 0, 5, 3, 1), (1, 0, 3, 5, 2, 4))
        steps = led_by_hand(STEPS, (4, 2, 0, 5, 3, 1), (1, 0, 3, 5, 2, 4))
        for one, other in ((ROUND, led), (LARGE, led_by_hand(LARGE, (5, 1, 0, 2, 4, 3), SIX[::-1])), (STEPS, steps)):
            self.tell_soon(("alike", ways_by_hand(one, other)[0]), alike, one, other)
        self.tell_soon(alike_by_hand(ROUND, OTHER_ROUND), alike, ROUND, OTHER_ROUND)

    def test_edges_with_themselves_and_turned(self):
        for board in DRAWN + EDGES:
            kind, way = alike(board, board)
            self.assertEqual((kind, way), ("alike", (tuple(range(board[0])), tuple(range(board[1])))))
            kind, way = alike(board, turned(board))
            self.assertIn(kind, ("alike", "turned"))
            self.assertTrue(is_way(board if kind == "alike" else turned(board), turned(board), way))


class NameOfTest(Asking):
    def test_known_boards(self):
        for text, wanted in (
            (".", "."), ("#", "#"), (".#", "#."), ("./#", "#/."), ("../..", "../.."), (".#/#.", "#./.#"),
            ("#.#/..#", "##./#.."), ("../##", "##/.."), (".#/.#", "#./#."), (".../..#/###", "###/#../..."),
            ("#../.#./..#", "#../.#./..#"),
            ("..#/#../.#.", "#../.#./..#"), ("#..#/.##./....", "##../..##/...."), ("#.#/.#./.#.", "##./..#/..#"),
        ):
            self.tell(read(wanted), name_of, read(text))
        self.tell_soon(full(6, 6), name_of, full(6, 6))
        self.tell_soon(empty(6, 6), name_of, empty(6, 6))
        self.tell_soon(read("#####./####../###.../##..../#...../......"), name_of, STEPS)
        self.tell_soon(DIAGONAL, name_of, (6, 6, tuple((at, 5 - at) for at in SIX)))
        self.tell_soon(read("##..../##..../..##../....#./.....#/......"), name_of, LARGE)

    def test_against_all_boards_that_are_alike(self):
        for board in small_boards() + all_boards(3, 3) + MIDDLE + [drawn(60, 5, 4, 4), LONG, TALL, UNEVEN]:
            wanted = min(all_alike(board))
            self.tell(wanted, name_of, board)
            self.assertTrue(is_board(wanted))

    def test_large_boards_against_all_that_are_alike(self):
        for cells in ((), ((3, 4),), ((1, 2), (4, 5)), ((2, 2), (2, 5)), ((1, 3), (4, 3)), DIAGONAL[2]):
            self.tell(min(all_alike((6, 6, cells))), name_of, (6, 6, cells))
            self.tell(min(all_alike(rest((6, 6, cells)))), name_of, rest((6, 6, cells)))
        self.tell(min(all_alike(drawn(70, 6, 5, 2))), name_of, drawn(70, 6, 5, 2))
        self.tell(min(all_alike(drawn(71, 4, 6, 5))), name_of, drawn(71, 4, 6, 5))

    def test_all_led_have_one_name(self):
        for board in DRAWN[:8] + [ROUND, STEPS, LARGE]:
            high, wide = board[:2]
            name = name_of(board)
            self.tell(name, name_of, name)
            for rows in list(permutations(range(high)))[5::191]:
                for columns in list(permutations(range(wide)))[7::239]:
                    self.assertEqual(name_of(led_by_hand(board, rows, columns)), name)
            self.assertEqual(alike(board, name)[0], "alike")


class OwnWaysTest(Asking):
    def test_known_boards(self):
        for text, wanted in (
            (".", 1), ("#", 1), ("..", 2), ("#.", 1), ("##", 2), ("../..", 4), ("#./.#", 2), ("##/..", 2), ("##/#.", 1),
            ("#../.#./..#", 6), ("##./##./..#", 4), ("###/###", 12), ("#.#/..#", 1), ("#...../......", 120),
        ):
            self.tell(wanted, own_ways, read(text))
        self.tell_soon(518400, own_ways, full(6, 6))
        self.tell_soon(518400, own_ways, empty(6, 6))
        self.tell_soon(720, own_ways, DIAGONAL)
        self.tell_soon(720, own_ways, rest(DIAGONAL))
        self.tell_soon(1, own_ways, STEPS)
        self.tell_soon(16, own_ways, LARGE)
        self.tell_soon(24, own_ways, ROUND)
        self.tell_soon(720 * 120, own_ways, full(6, 5))
        self.tell_soon(720, own_ways, full(1, 6))

    def test_against_all_orders(self):
        for board in small_boards() + all_boards(3, 3) + MIDDLE:
            self.tell(len(ways_by_hand(board, board)), own_ways, board)

    def test_large_boards_against_all_orders(self):
        for board in (LARGE, ROUND):
            self.tell(len(ways_by_hand(board, board)), own_ways, board)

    def test_own_ways_and_boards_alike_are_all_orders(self):
        large = [DIAGONAL, (6, 6, ((1, 2), (4, 5))), drawn(70, 6, 5, 2)]
        for board in small_boards() + all_boards(3, 3) + MIDDLE + large:
            orders = factorial(board[0]) * factorial(board[1])
            self.assertEqual(own_ways(board) * len(all_alike(board)), orders)


if __name__ == "__main__":
    unittest.main()
