"""Promises 11 to 13, with 2 and 3 where they bear on them: lines that hold a board, showings, sure cells."""

import time
import unittest

from asking import SOME_SECONDS, Asking
from oracles import all_lines, all_stands_by_hand, greatest_by_hand, is_held
from rooklands.boards import turned
from rooklands.most import holds, is_showing, showing, sure
from rooklands.texts import read
from samples import (
    DRAWN, EDGES, LARGE, LONG, NO_LINES_OF_UNEVEN, TALL, UNEVEN, all_boards, empty, full, odd_things, small_boards,
)

SIX = (0, 1, 2, 3, 4, 5)
DIAGONAL = tuple((at, at) for at in SIX)


class HoldsTest(Asking):
    def test_known_lines(self):
        # The board #.#/..#
        for lines in (((0, 1), ()), ((0,), (2,)), ((), (0, 2)), ((0, 1), (0, 1, 2)), ((1,), (0, 2)), ((), (0, 1, 2))):
            self.tell(True, holds, UNEVEN, lines)
        for lines in (((), ()), ((0,), ()), ((1,), ()), ((), (2,)), ((1,), (2,)), ((0,), (0,)), ((), (0, 1))):
            self.tell(False, holds, UNEVEN, lines)

    def test_each_lines_of_small_boards(self):
        for board in small_boards():
            for lines in all_lines(board):
                self.assertIs(holds(board, lines), is_held(board, lines), (board, lines))

    def test_edges(self):
        self.tell(True, holds, empty(6, 6), ((), ()))
        self.tell(True, holds, empty(1, 1), ((), ()))
        self.tell(True, holds, empty(1, 1), ((0,), (0,)))
        self.tell(False, holds, full(1, 1), ((), ()))
        self.tell(True, holds, full(6, 6), (SIX, ()))
        self.tell(True, holds, full(6, 6), ((), SIX))
        self.tell(True, holds, full(6, 6), (SIX, SIX))
        self.tell(False, holds, full(6, 6), ((0, 1, 2, 3, 4), (0, 1, 2, 3, 4)))
        self.tell(True, holds, LONG, ((0,), ()))
        self.tell(True, holds, LONG, ((), (0, 2, 3)))
        self.tell(False, holds, LONG, ((), (0, 2)))
        self.tell(True, holds, TALL, ((), (0,)))
        self.tell(False, holds, TALL, ((1, 2, 4), ()))

    def test_what_are_no_lines(self):
        for thing in NO_LINES_OF_UNEVEN:
            self.tell(False, holds, UNEVEN, thing)
            self.tell(False, holds, empty(2, 3), thing)

    def test_lines_that_would_hold_but_are_none(self):
        for thing in (
            ((0, 1), [0]), ([0, 1], ()), ((0, 1), (3,)), ((0, 1, 2), ()), ((1, 0), ()), ((0, 0, 1), ()),
            ((0, 1), (1, 0)), ((-1, 0, 1), ()), ((False, True), ()), ((0, True), ()), ((0, 1), (False,)),
            [(0, 1), ()], ((0, 1), (), ()),
            ((0, 1),), (0, 1), ((0, 1), None), ((0, 1), {}), ((0, 1), ""), ({0: 0, 1: 1}, ()), ((0, 1, "1"), ()),
        ):
            self.tell(False, holds, UNEVEN, thing)

    def test_things_of_every_kind(self):
        for thing in odd_things():
            self.tell(False, holds, full(6, 6), thing)
            self.tell(repr(thing) == "((), ())", holds, empty(6, 6), thing)
            self.tell(repr(thing) in ("()", "(0,)"), holds, empty(1, 6), (thing, ()))
            self.tell(repr(thing) in ("()", "(0,)"), holds, empty(6, 1), ((), thing))
            self.tell(repr(thing) in ("0", "1", "2"), holds, empty(3, 3), ((thing,), ()))


class IsShowingTest(Asking):
    def test_known_showings(self):
        stand = ((0, 0), (1, 2))
        for lines in (((0, 1), ()), ((0,), (2,)), ((), (0, 2))):
            self.tell(True, is_showing, UNEVEN, (stand, lines))
        self.tell(True, is_showing, empty(6, 6), ((), ((), ())))
        self.tell(True, is_showing, full(6, 6), (DIAGONAL, (SIX, ())))
        self.tell(True, is_showing, full(6, 6), (DIAGONAL, ((), SIX)))
        self.tell(True, is_showing, LONG, (((0, 2),), ((0,), ())))
        self.tell(True, is_showing, TALL, (((5, 0),), ((), (0,))))
        self.tell(True, is_showing, full(1, 1), (((0, 0),), ((0,), ())))

    def test_each_stand_with_each_lines_of_small_boards(self):
        for board in all_boards(2, 2) + all_boards(1, 3) + all_boards(3, 1) + all_boards(2, 3):
            stands = all_stands_by_hand(board)
            for lines in all_lines(board):
                for stand in stands:
                    wanted = is_held(board, lines) and len(stand) == len(lines[0]) + len(lines[1])
                    self.assertIs(is_showing(board, (stand, lines)), wanted, (board, stand, lines))

    def test_more_or_fewer_lines_than_cells(self):
        self.tell(False, is_showing, UNEVEN, (((0, 0), (1, 2)), ((0, 1), (2,))))
        self.tell(False, is_showing, UNEVEN, (((0, 0), (1, 2)), ((0, 1), (0, 1, 2))))
        self.tell(False, is_showing, UNEVEN, (((0, 0),), ((0, 1), ())))
        self.tell(False, is_showing, UNEVEN, (((0, 0),), ((0,), ())))
        self.tell(False, is_showing, full(6, 6), (DIAGONAL[:5], (SIX, ())))
        self.tell(False, is_showing, empty(6, 6), ((), ((0,), ())))

    def test_lines_that_hold_with_what_is_no_stand(self):
        lines = ((0,), (2,))
        for stand in (
            ((0, 0), (0, 2)), ((0, 2), (1, 2)), ((1, 2), (0, 0)), ((0, 0), (0, 0)), ((0, 1), (1, 2)), [(0, 0), (1, 2)],
            ([0, 0], (1, 2)), ((False, 0), (1, 2)), ((0, 0), (True, 2)), ((0, 0), (1, 3)), ((-1, 0), (1, 2)), (0, 2),
            ((), ()), "ab", {0: 0, 1: 1}, [0, 1], (None, None), ((0, 0), None), ((0,), (2,)), None, 2, True,
        ):
            self.tell(False, is_showing, UNEVEN, (stand, lines))

    def test_a_stand_with_what_are_no_lines_that_hold(self):
        stand = ((0, 0), (1, 2))
        for lines in NO_LINES_OF_UNEVEN + [
            ((1,), (2,)), ((0,), (0,)), ((), (0, 1)), ([0], (2,)), ((0,), [2]), ([0], [2]), [(0,), (2,)], ((2,), (0,)),
            ((False,), (2,)), ((1, 0), ()), ((), (2, 0)), ((0, True), ()), ((0,), (2,), ()), {(0,): (2,)},
        ]:
            self.tell(False, is_showing, UNEVEN, (stand, lines))

    def test_other_forms(self):
        stand, lines = ((0, 0), (1, 2)), ((0,), (2,))
        for thing in (
            [stand, lines], (lines, stand), (stand,), (lines,), (stand, lines, ()), (stand, lines, lines), stand, lines,
            stand + lines, {stand: lines}, {0: stand, 1: lines}, ((stand, lines),), (stand, (0,), (2,)), (stand, None),
            (stand, ()), ((), lines), (), ((),), None, "showing", 0, True, ((), ()),
        ):
            self.tell(False, is_showing, UNEVEN, thing)

    def test_things_of_every_kind(self):
        for thing in odd_things():
            for board in (full(6, 6), empty(6, 6), UNEVEN):
                self.tell(False, is_showing, board, thing)
            self.tell(repr(thing) == "()", is_showing, empty(2, 2), (thing, ((), ())))
            self.tell(repr(thing) == "((), ())", is_showing, empty(2, 2), ((), thing))
            self.tell(False, is_showing, full(2, 2), (thing, ((0, 1), ())))
            self.tell(False, is_showing, full(2, 2), (((0, 0), (1, 1)), thing))


class ShowingTest(Asking):
    def check(self, board):
        """That what is told is a showing is seen without asking the program."""
        start = time.perf_counter()
        told = showing(board)
        self.assertLess(time.perf_counter() - start, SOME_SECONDS)
        self.assertIsInstance(told, tuple)
        stand, lines = told
        self.assertIn(repr(stand), [repr(each) for each in greatest_by_hand(board)], board)
        self.assertIn(repr(lines), [repr(each) for each in all_lines(board)], board)
        self.assertTrue(is_held(board, lines), (board, lines))
        self.assertEqual(len(lines[0]) + len(lines[1]), len(stand), (board, told))
        self.tell(True, is_showing, board, told)
        self.tell(told, showing, board)

    def test_small_boards(self):
        for board in small_boards() + all_boards(3, 3):
            self.check(board)

    def test_larger_boards_and_edges(self):
        for board in DRAWN + EDGES + [turned(board) for board in DRAWN]:
            self.check(board)

    def test_boards_that_need_rows_and_columns(self):
        for text in (
            "####/#.../#...", "..#./####/..#./..#.", "######/#...../#...../..##../..##../......", "#.../#.../.###",
        ):
            self.check(read(text))


class SureTest(Asking):
    def sure_by_hand(self, board):
        greatest = greatest_by_hand(board)
        in_all = tuple(cell for cell in board[2] if all(cell in stand for stand in greatest))
        in_none = tuple(cell for cell in board[2] if not any(cell in stand for stand in greatest))
        return (in_all, in_none)

    def test_known_boards(self):
        self.tell((((0, 0), (1, 2)), ((0, 2),)), sure, UNEVEN)
        self.tell(((), ()), sure, full(2, 2))
        self.tell(((), ()), sure, empty(6, 6))
        self.tell(((), ()), sure, empty(1, 1))
        self.tell((((0, 0),), ()), sure, full(1, 1))
        self.tell(((), ()), sure, full(6, 6))
        self.tell((DIAGONAL, ()), sure, (6, 6, DIAGONAL))
        self.tell(((), ()), sure, LONG)
        self.tell(((), ()), sure, TALL)
        self.tell((((0, 3),), ()), sure, read("...#.."))
        # The lower triangle with its diagonal: only the diagonal takes all rows and columns.
        triangle = tuple((row, column) for row in range(6) for column in range(row + 1))
        below = tuple(cell for cell in triangle if cell[0] != cell[1])
        self.tell_soon((DIAGONAL, below), sure, (6, 6, triangle))

    def test_small_boards(self):
        for board in small_boards() + all_boards(3, 3):
            self.tell(self.sure_by_hand(board), sure, board)

    def test_larger_boards_and_edges(self):
        for board in DRAWN + EDGES:
            self.tell_soon(self.sure_by_hand(board), sure, board)

    def test_turned(self):
        for board in DRAWN + [LARGE]:
            in_all, in_none = sure(board)
            wanted = tuple(tuple(sorted((column, row) for row, column in cells)) for cells in (in_all, in_none))
            self.tell(wanted, sure, turned(board))


if __name__ == "__main__":
    unittest.main()
