"""Promise 23, with 2 where it bears on it: stairs and their boards."""

import unittest
from itertools import product

from asking import Asking
from oracles import stair_board_by_hand
from rooklands.boards import is_board, led, turned
from rooklands.errors import NoStairs
from rooklands.stairs import is_stairs, stair_board, stairs_of
from rooklands.texts import read
from samples import ALL_STAIRS, DRAWN, EDGES, NO_STAIRS, all_boards, empty, full, odd_things, small_boards

SIX = (0, 1, 2, 3, 4, 5)


class IsStairsTest(Asking):
    def test_all_stairs(self):
        self.assertEqual(len(set(ALL_STAIRS)), 1715)
        for stairs in ALL_STAIRS:
            self.tell(True, is_stairs, stairs)
            self.tell(False, is_stairs, list(stairs))
            self.tell(stairs[0] == stairs[-1], is_stairs, stairs[::-1])

    def test_no_stairs(self):
        for thing in NO_STAIRS:
            self.tell(False, is_stairs, thing)

    def test_anything(self):
        for thing in odd_things():
            wanted = repr(thing) in ("(0,)", "(0, 0)", "(1, 1)", "(1, 1, 1)")
            self.tell(wanted, is_stairs, thing)
            is_number = type(thing) is int and 0 <= thing <= 6
            self.tell(is_number, is_stairs, (thing,))
            self.tell(is_number, is_stairs, (0, thing))
            self.tell(is_number, is_stairs, (thing, 6))
            self.tell(is_number, is_stairs, (0, thing, 6))
            self.tell(False, is_stairs, [thing])

    def test_short_tuples(self):
        for length in (1, 2, 3):
            for numbers in product(range(-1, 8), repeat=length):
                wanted = numbers[0] >= 0 and numbers[-1] <= 6 and list(numbers) == sorted(numbers)
                self.tell(wanted, is_stairs, numbers)


class StairBoardTest(Asking):
    def test_known_stairs(self):
        for stairs, text in (
            ((0,), "."), ((1,), "#"), ((0, 0), ".."), ((0, 1), ".#"), ((1, 1), "##"), ((2,), "#/#"),
            ((0, 2), ".#/.#"), ((1, 2), "##/.#"), ((0, 1, 3), ".##/..#/..#"), ((2, 2, 2), "###/###"),
            ((0,) * 6, "......"), ((6,), "#/#/#/#/#/#"), ((0, 0, 0, 0, 0, 6), "/".join([".....#"] * 6)),
            (SIX, ".#####/..####/...###/....##/.....#"),
            ((1, 2, 3, 4, 5, 6), "######/.#####/..####/...###/....##/.....#"),
        ):
            self.tell(read(text), stair_board, stairs)
        self.tell(full(6, 6), stair_board, (6,) * 6)

    def test_all_stairs(self):
        for stairs in ALL_STAIRS:
            self.tell(stair_board_by_hand(stairs), stair_board, stairs)
            self.assertTrue(is_board(stair_board(stairs)))

    def test_no_stairs(self):
        for thing in NO_STAIRS:
            self.refuse(NoStairs, stair_board, thing)
        for thing in odd_things():
            if repr(thing) not in ("(0,)", "(0, 0)", "(1, 1)", "(1, 1, 1)"):
                self.refuse(NoStairs, stair_board, thing)


class StairsOfTest(Asking):
    def test_known_boards(self):
        for text, stairs in (
            (".", (0,)), ("#", (1,)), ("..", (0, 0)), (".#", (0, 1)), ("#.", None), ("./.", None), ("#/.", None),
            ("./#", None), ("#/#", (2,)), ("##/..", None), ("##/.#", (1, 2)), ("##/#.", None), (".#/##", None),
            ("../..", None), (".#/.#", (0, 2)), (".#/..", None), ("..#/.##", None), (".##/..#/..#", (0, 1, 3)),
            ("###/#.#", None), ("######", (1,) * 6), (".##/.##/...", None),
        ):
            self.tell(stairs, stairs_of, read(text))
        self.tell((6,) * 6, stairs_of, full(6, 6))
        self.tell((0,) * 6, stairs_of, empty(1, 6))
        self.tell(None, stairs_of, empty(6, 6))
        self.tell(None, stairs_of, empty(2, 6))
        self.tell((6,), stairs_of, full(6, 1))
        self.tell(None, stairs_of, empty(6, 1))

    def test_boards_of_all_stairs_lead_back(self):
        for stairs in ALL_STAIRS:
            self.tell(stairs, stairs_of, stair_board_by_hand(stairs))

    def test_small_boards(self):
        by_board = {stair_board_by_hand(stairs): stairs for stairs in ALL_STAIRS}
        self.assertEqual(len(by_board), 1715)
        for board in small_boards() + all_boards(3, 3) + all_boards(2, 4) + all_boards(4, 2) + DRAWN + EDGES:
            self.tell(by_board.get(board), stairs_of, board)

    def test_a_cell_more_or_fewer_or_moved(self):
        by_board = {stair_board_by_hand(stairs): stairs for stairs in ALL_STAIRS}
        for stairs in ALL_STAIRS[::53]:
            high, wide, cells = board = stair_board_by_hand(stairs)
            for place in full(high, wide)[2]:
                changed = (high, wide, tuple(sorted(set(cells) ^ {place})))
                self.tell(by_board.get(changed), stairs_of, changed)
            for other in (turned(board), led(board, tuple(range(high))[::-1], tuple(range(wide))[::-1])):
                self.tell(by_board.get(other), stairs_of, other)


if __name__ == "__main__":
    unittest.main()
