"""Promises 6 and 7, with 2 and 3 where they bear on them: boards turned, left over, led and without lines."""

import unittest
from itertools import permutations

from asking import Asking
from oracles import subsets
from rooklands.boards import is_board, led, rest, turned, without_lines
from rooklands.errors import NoLines, NoOrder, TooFew
from rooklands.texts import read, written
from samples import (
    EDGES, LARGE, LONG, NO_LINES_OF_UNEVEN, NO_ORDERS_OF_TWO, TALL, UNEVEN, all_boards, empty, full, odd_things,
    small_boards,
)


class MovesTest(Asking):
    def same(self, told, wanted):
        self.assertEqual(repr(told), repr(wanted))
        self.assertTrue(is_board(told))


class TurnedTest(MovesTest):
    def test_known_boards(self):
        self.same(turned(read("#.#/..#")), read("#./../##"))
        self.same(turned(LONG), (6, 1, ((0, 0), (2, 0), (3, 0))))
        self.same(turned(TALL), (1, 6, ((0, 1), (0, 2), (0, 5))))
        self.same(turned(read(".#/.#")), read("../##"))
        self.same(turned(empty(1, 1)), empty(1, 1))
        self.same(turned(full(6, 6)), full(6, 6))
        self.same(turned(empty(2, 6)), empty(6, 2))
        self.same(turned(LARGE), (6, 6, ((0, 0), (0, 5), (1, 2), (2, 1), (3, 3), (4, 3), (5, 0), (5, 5))))

    def test_by_places(self):
        for board in small_boards() + EDGES:
            told = turned(board)
            self.assertEqual(told[:2], (board[1], board[0]))
            for row in range(board[0]):
                for column in range(board[1]):
                    self.assertEqual((column, row) in told[2], (row, column) in board[2])
            self.assertEqual(len(told[2]), len(board[2]))
            self.same(turned(told), board)
            self.same(turned(board), told)


class RestTest(MovesTest):
    def test_known_boards(self):
        self.same(rest(read("#.#/..#")), read(".#./##."))
        self.same(rest(LONG), (1, 6, ((0, 1), (0, 4), (0, 5))))
        self.same(rest(TALL), (6, 1, ((0, 0), (3, 0), (4, 0))))
        self.same(rest(empty(6, 6)), full(6, 6))
        self.same(rest(full(6, 5)), empty(6, 5))
        self.same(rest(full(1, 1)), empty(1, 1))
        self.same(rest(empty(1, 1)), full(1, 1))
        self.same(rest(LARGE), read(".####./##.###/#.####/###..#/######/.####."))

    def test_by_signs(self):
        for board in small_boards() + EDGES:
            told = rest(board)
            self.assertEqual(told[:2], board[:2])
            self.assertEqual(written(told), written(board).translate(str.maketrans("#.", ".#")))
            self.same(rest(told), board)
            self.same(rest(turned(board)), turned(told))


class LedTest(MovesTest):
    def test_known_boards(self):
        self.same(led(read("#.#/..#"), (1, 0), (0, 1, 2)), read("..#/#.#"))
        self.same(led(read("#.#/..#"), (0, 1), (1, 2, 0)), read(".##/.#."))
        self.same(led(read("#.#/..#"), (1, 0), (2, 0, 1)), read("#../##."))
        self.same(led(read("#/./."), (1, 2, 0), (0,)), read("././#"))
        self.same(led(read("#.."), (0,), (1, 2, 0)), read("..#"))
        self.same(led(full(1, 1), (0,), (0,)), full(1, 1))
        self.same(led(LONG, (0,), (5, 4, 3, 2, 1, 0)), read("..##.#"))
        self.same(led(TALL, (1, 2, 5, 0, 3, 4), (0,)), read("#/#/#/././."))
        self.same(
            led(LARGE, (5, 3, 1, 0, 2, 4), (0, 5, 3, 4, 1, 2)),
            read("##..../..##../.....#/##..../....#./......"),
        )

    def test_by_places(self):
        for board in all_boards(2, 3) + all_boards(3, 2) + all_boards(1, 3) + all_boards(3, 1) + [LONG]:
            high, wide, cells = board
            for rows in permutations(range(high)):
                for columns in permutations(range(wide)):
                    signs = [["#" if (row, column) in cells else "." for column in columns] for row in rows]
                    self.same(led(board, rows, columns), read("/".join("".join(row) for row in signs)))

    def test_the_orders_as_they_stand_change_nothing(self):
        for board in small_boards() + EDGES:
            self.same(led(board, tuple(range(board[0])), tuple(range(board[1]))), board)
            self.same(led(board, tuple(range(board[0])), tuple(range(board[1]))), board)

    def test_led_back(self):
        rows, columns = (2, 0, 5, 1, 4, 3), (4, 2, 0, 1, 5, 3)
        back_rows = tuple(rows.index(row) for row in range(6))
        back_columns = tuple(columns.index(column) for column in range(6))
        self.assertNotEqual(led(LARGE, rows, columns), LARGE)
        self.same(led(led(LARGE, rows, columns), back_rows, back_columns), LARGE)
        self.same(turned(led(LARGE, rows, columns)), led(turned(LARGE), columns, rows))
        self.same(rest(led(LARGE, rows, columns)), led(rest(LARGE), rows, columns))

    def test_no_order_of_rows(self):
        for rows in NO_ORDERS_OF_TWO:
            self.refuse(NoOrder, led, UNEVEN, rows, (2, 0, 1))

    def test_no_order_of_columns(self):
        for columns in NO_ORDERS_OF_TWO:
            self.refuse(NoOrder, led, turned(UNEVEN), (2, 0, 1), columns)

    def test_rows_and_columns_are_not_taken_for_one_another(self):
        self.refuse(NoOrder, led, UNEVEN, (0, 1, 2), (0, 1))
        self.refuse(NoOrder, led, UNEVEN, (0, 1, 2), (0, 1, 2))
        self.refuse(NoOrder, led, UNEVEN, (0, 1), (0, 1))

    def test_things_of_other_kinds(self):
        for thing in odd_things():
            self.refuse(NoOrder, led, LARGE, thing, (0, 1, 2, 3, 4, 5))
            self.refuse(NoOrder, led, LARGE, (0, 1, 2, 3, 4, 5), thing)
            self.refuse(NoOrder, led, LARGE, thing, thing)
            if repr(thing) != "(0,)":
                self.refuse(NoOrder, led, full(1, 1), thing, (0,))
                self.refuse(NoOrder, led, full(1, 1), (0,), thing)

    def test_the_rows_are_refused_ahead_of_the_columns(self):
        of_rows = self.refuse(NoOrder, led, UNEVEN, (0, 0), (0, 1, 2))
        of_columns = self.refuse(NoOrder, led, UNEVEN, (0, 1), (0, 0, 0))
        self.assertNotEqual(of_rows, of_columns)
        self.assertEqual(self.refuse(NoOrder, led, UNEVEN, (0, 0), (0, 0, 0)), of_rows)


class WithoutLinesTest(MovesTest):
    def test_known_boards(self):
        self.same(without_lines(read("#.#/..#"), ((0,), ())), read("..#"))
        self.same(without_lines(read("#.#/..#"), ((), (1,))), read("##/.#"))
        self.same(without_lines(read("#.#/..#"), ((1,), (0, 1))), read("#"))
        self.same(without_lines(read("#.#/..#"), ((0,), (2,))), read(".."))
        self.same(without_lines(full(6, 6), ((0, 1, 2, 3, 4), (1, 2, 3, 4, 5))), full(1, 1))
        self.same(without_lines(empty(6, 6), ((5,), (0, 5))), empty(5, 4))
        self.same(without_lines(LARGE, ((1, 4), (1, 2))), read("#..#/..../.##./#..#"))
        self.same(without_lines(LONG, ((), (1, 4, 5))), read("###"))
        self.same(without_lines(TALL, ((0, 3, 4), ())), read("#/#/#"))
        self.same(without_lines(full(1, 1), ((), ())), full(1, 1))

    def test_by_signs(self):
        for board in all_boards(2, 3) + all_boards(3, 2) + [LONG, TALL]:
            high, wide, cells = board
            for rows in subsets(range(high)):
                for columns in subsets(range(wide)):
                    if len(rows) == high or len(columns) == wide:
                        self.refuse(TooFew, without_lines, board, (rows, columns))
                        continue
                    left = [column for column in range(wide) if column not in columns]
                    signs = [
                        "".join("#" if (row, column) in cells else "." for column in left)
                        for row in range(high) if row not in rows
                    ]
                    self.same(without_lines(board, (rows, columns)), read("/".join(signs)))

    def test_without_no_line_is_the_board(self):
        for board in small_boards() + EDGES:
            self.same(without_lines(board, ((), ())), board)
            self.same(without_lines(board, ((), ())), board)

    def test_what_are_no_lines(self):
        for lines in NO_LINES_OF_UNEVEN:
            self.refuse(NoLines, without_lines, UNEVEN, lines)

    def test_rows_and_columns_are_not_taken_for_one_another(self):
        self.refuse(NoLines, without_lines, UNEVEN, ((2,), (0,)))
        self.same(without_lines(UNEVEN, ((0,), (2,))), read(".."))
        self.refuse(NoLines, without_lines, turned(UNEVEN), ((0,), (2,)))

    def test_things_of_other_kinds(self):
        for thing in odd_things():
            if repr(thing) == "((), ())":
                self.same(without_lines(LARGE, thing), LARGE)
            else:
                self.refuse(NoLines, without_lines, LARGE, thing)
            if repr(thing) not in ("()", "(0,)"):
                self.refuse(NoLines, without_lines, full(1, 6), (thing, ()))
                self.refuse(NoLines, without_lines, full(6, 1), ((), thing))

    def test_no_row_or_no_column_is_left(self):
        for lines in (((0, 1), ()), ((), (0, 1, 2)), ((0, 1), (0, 1, 2)), ((0, 1), (1,)), ((0,), (0, 1, 2))):
            self.refuse(TooFew, without_lines, UNEVEN, lines)
        six = (0, 1, 2, 3, 4, 5)
        for lines in ((six, ()), ((), six), (six, six)):
            self.refuse(TooFew, without_lines, LARGE, lines)
        for lines in (((0,), ()), ((), (0,)), ((0,), (0,))):
            self.refuse(TooFew, without_lines, full(1, 1), lines)
        self.refuse(TooFew, without_lines, LONG, ((0,), ()))
        self.refuse(TooFew, without_lines, TALL, ((), (0,)))

    def test_no_lines_goes_ahead_of_too_few(self):
        for lines in (
            ((0, 1), (3,)), ((0, 1), (1, 0)), ((0, 1), None), ((0, 1), [0]), ((2,), (0, 1, 2)), ((1, 0), (0, 1, 2)),
            (None, (0, 1, 2)), ([0], (0, 1, 2)), ((0, 1), (0, 1, 2), ()), [(0, 1), (0, 1, 2)], ((0, 1), (0, 1, 2, 3)),
            ((0, 1, 2), ()), ((0, True), ()), ((False, 1), (0,)), ((), (False, True, 2)), ((0, 1), (True,)),
        ):
            self.refuse(NoLines, without_lines, UNEVEN, lines)


class NothingHangsTogetherTest(MovesTest):
    def test_questions_do_not_hang_on_earlier_ones(self):
        first = [turned(LARGE), rest(LARGE), led(UNEVEN, (1, 0), (2, 0, 1)), without_lines(LARGE, ((0,), (5,)))]
        for board in small_boards():
            turned(board), rest(board), written(board)
        for lines in (((0,),), None, ((0, 1), ())):
            with self.assertRaises((NoLines, TooFew)):
                without_lines(UNEVEN, lines)
        again = [turned(LARGE), rest(LARGE), led(UNEVEN, (1, 0), (2, 0, 1)), without_lines(LARGE, ((0,), (5,)))]
        self.assertEqual(repr(again), repr(first))


if __name__ == "__main__":
    unittest.main()
