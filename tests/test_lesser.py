"""Promises 14 to 16, with 2 where it bears on them: lesser boards, boards put together, pieces."""

import unittest

from asking import Asking
from oracles import counts_by_hand
from rooklands.boards import is_board, turned
from rooklands.errors import NoCell, TooFew, TooMany
from rooklands.lesser import beside, multiplied, pieces, struck, without
from rooklands.texts import read, written
from samples import DRAWN, EDGES, LARGE, LONG, TALL, UNEVEN, all_boards, empty, full, odd_things, small_boards

# Of UNEVEN, the board #.#/..#
NO_CELLS_OF_UNEVEN = [
    (0, 1), (1, 0), (1, 1), (-1, 0), (0, -1), (2, 0), (0, 3), (1, 3), (2, 2), (-2, 0), (-1, 2), (10 ** 39, 0),
    (0, -(10 ** 39)), (False, 0), (0, False), (False, False), (True, 2), (False, 2), [0, 0], [0, 2], [1, 2], {0: 0},
    {0: 0, 2: 2}, "00", "02",
    (), (0,), (0, 0, 0), (1, 2, 0), ((0, 0),), ((0, 0), (1, 2)), (0, None), (None, 0), ("0", "0"), (0, "0"), ([0], 0),
    (0, (0,)), (0, []), (0, {}), None, 0, 1, 2, -1, True, False, "", [], {}, [(0, 0)], 10 ** 39,
]


class WithoutTest(Asking):
    def test_known_boards(self):
        self.tell(read("..#/..#"), without, UNEVEN, (0, 0))
        self.tell(read("#../..#"), without, UNEVEN, (0, 2))
        self.tell(read("#.#/..."), without, UNEVEN, (1, 2))
        self.tell(empty(1, 1), without, full(1, 1), (0, 0))
        self.tell(read("#..#.."), without, LONG, (0, 2))
        self.tell(read("./#/#/././."), without, TALL, (5, 0))
        self.tell(full(6, 6)[:2] + (full(6, 6)[2][:-1],), without, full(6, 6), (5, 5))

    def test_each_cell(self):
        for board in small_boards() + DRAWN + EDGES:
            for at, cell in enumerate(board[2]):
                wanted = (board[0], board[1], board[2][:at] + board[2][at + 1:])
                self.tell(wanted, without, board, cell)
                self.assertTrue(is_board(without(board, cell)))

    def test_no_cell(self):
        for cell in NO_CELLS_OF_UNEVEN:
            self.refuse(NoCell, without, UNEVEN, cell)
        for thing in odd_things():
            if repr(thing) not in ("(0, 0)", "(1, 0)", "(1, 1)"):
                self.refuse(NoCell, without, full(6, 6), thing)
            self.refuse(NoCell, without, empty(6, 6), thing)
        self.refuse(NoCell, without, without(full(6, 6), (3, 3)), (3, 3))


class StruckTest(Asking):
    def test_known_boards(self):
        self.tell(read(".#"), struck, UNEVEN, (0, 0))
        self.tell(read(".."), struck, UNEVEN, (0, 2))
        self.tell(read("#."), struck, UNEVEN, (1, 2))
        self.tell(full(5, 5), struck, full(6, 6), (2, 3))
        self.tell(full(1, 1), struck, full(2, 2), (1, 0))
        self.tell(full(1, 5), struck, full(2, 6), (1, 5))
        self.tell(full(5, 1), struck, full(6, 2), (5, 1))
        self.tell(read("#...#/.#.../..##./...../#...#"), struck, LARGE, (1, 2))

    def test_each_cell(self):
        for board in small_boards() + DRAWN + EDGES:
            for row, column in board[2]:
                if 1 in board[:2]:
                    self.refuse(TooFew, struck, board, (row, column))
                    continue
                rows = written(board).split("/")
                left = [signs[:column] + signs[column + 1:] for signs in rows[:row] + rows[row + 1:]]
                self.tell(read("/".join(left)), struck, board, (row, column))

    def test_just_one_row_or_one_column(self):
        self.refuse(TooFew, struck, full(1, 1), (0, 0))
        self.refuse(TooFew, struck, LONG, (0, 3))
        self.refuse(TooFew, struck, TALL, (1, 0))
        self.refuse(TooFew, struck, full(1, 2), (0, 1))
        self.refuse(TooFew, struck, full(2, 1), (1, 0))

    def test_no_cell(self):
        for cell in NO_CELLS_OF_UNEVEN:
            self.refuse(NoCell, struck, UNEVEN, cell)
        for thing in odd_things():
            if repr(thing) not in ("(0, 0)", "(1, 0)", "(1, 1)"):
                self.refuse(NoCell, struck, full(6, 6), thing)
            self.refuse(NoCell, struck, empty(6, 6), thing)

    def test_no_cell_goes_ahead_of_too_few(self):
        for thing in odd_things():
            self.refuse(NoCell, struck, empty(1, 1), thing)
            if repr(thing) != "(0, 0)":
                self.refuse(NoCell, struck, LONG, thing)
        for cell in ((0, 1), (0, 4), (1, 0), (0, 6), (0, -1), (False, 0), (0, False), [0, 0]):
            self.refuse(NoCell, struck, LONG, cell)
        for cell in ((0, 0), (3, 0), (1, 1), (6, 0), (-1, 0), (True, 0), (1, False), [1, 0]):
            self.refuse(NoCell, struck, TALL, cell)


class BesideTest(Asking):
    def test_known_boards(self):
        self.tell(read("#./.#"), beside, full(1, 1), full(1, 1))
        self.tell(read("#.#./..#./...#"), beside, UNEVEN, full(1, 1))
        self.tell(read("#.../.#.#/...#"), beside, full(1, 1), UNEVEN)
        self.tell(read("##..../##..../..#.#./..#.#."), beside, full(2, 2), read("#.#./#.#."))
        self.tell(empty(6, 6), beside, empty(2, 5), empty(4, 1))
        self.tell(read("###.../###.../###.../...###/...###/...###"), beside, full(3, 3), full(3, 3))
        self.tell(read("....../.....#"), beside, empty(1, 5), full(1, 1))

    def test_by_signs(self):
        boards = all_boards(1, 2) + all_boards(2, 1) + all_boards(2, 2) + [LARGE, LONG, TALL, empty(5, 5), full(4, 3)]
        for one in boards:
            for other in boards:
                if one[0] + other[0] > 6 or one[1] + other[1] > 6:
                    self.refuse(TooMany, beside, one, other)
                    continue
                rows = [signs + "." * other[1] for signs in written(one).split("/")]
                rows += ["." * one[1] + signs for signs in written(other).split("/")]
                self.tell(read("/".join(rows)), beside, one, other)

    def test_each_size(self):
        for high in range(1, 7):
            for wide in range(1, 7):
                for more_high in range(1, 7):
                    for more_wide in range(1, 7):
                        given = (full(high, wide), empty(more_high, more_wide))
                        if high + more_high <= 6 and wide + more_wide <= 6:
                            wanted = (high + more_high, wide + more_wide, full(high, wide)[2])
                            self.assertEqual(repr(beside(*given)), repr(wanted))
                        else:
                            with self.assertRaises(TooMany) as caught:
                                beside(*given)
                            self.assertIs(type(caught.exception), TooMany)

    def test_seven_rows_or_seven_columns_alone(self):
        self.refuse(TooMany, beside, full(3, 1), full(4, 1))
        self.refuse(TooMany, beside, full(1, 3), full(1, 4))
        self.refuse(TooMany, beside, full(6, 1), full(1, 1))
        self.refuse(TooMany, beside, full(1, 1), full(1, 6))
        self.refuse(TooMany, beside, full(6, 6), full(6, 6))


class MultipliedTest(Asking):
    def by_hand(self, one, other):
        return [
            sum(one[at] * other[place - at] for at in range(len(one)) if 0 <= place - at < len(other))
            for place in range(len(one) + len(other) - 1)
        ]

    def test_known_lists(self):
        for one, other, wanted in (
            ([1], [1], [1]), ([0], [0], [0]), ([3], [4], [12]), ([1, 1], [1, 1], [1, 2, 1]), ([1, 2], [3], [3, 6]),
            ([1, 3, 1], [1, 1], [1, 4, 4, 1]), ([0, 1], [5, 6, 7], [0, 5, 6, 7]), ([1, 0, 0], [1, 0], [1, 0, 0, 0]),
            ([0, 0], [0, 0, 0], [0, 0, 0, 0]), ([2, 0, 1], [1, 4], [2, 8, 1, 4]), ([7], [1, 2, 3], [7, 14, 21]),
            ([1] * 7, [1] * 7, [1, 2, 3, 4, 5, 6, 7, 6, 5, 4, 3, 2, 1]),
            ([10 ** 39], [10 ** 39, 1], [10 ** 78, 10 ** 39]),
        ):
            self.tell(wanted, multiplied, one, other)
            self.tell(wanted, multiplied, other, one)

    def test_lists_of_each_length(self):
        for length in range(1, 8):
            for other_length in range(1, 8):
                one = [(3 * at + length) % 5 for at in range(length)]
                other = [(7 * at + other_length) % 11 for at in range(other_length)]
                self.tell(self.by_hand(one, other), multiplied, one, other)
                self.assertEqual(len(multiplied(one, other)), length + other_length - 1)

    def test_longer_lists_are_no_fault(self):
        self.tell(self.by_hand([1] * 8, [2] * 9), multiplied, [1] * 8, [2] * 9)

    def test_a_list_with_itself(self):
        numbers = [1, 4, 2]
        self.tell([1, 8, 20, 16, 4], multiplied, numbers, numbers)

    def test_lists_handed_in_may_be_changed_later(self):
        one, other = [1, 2], [1]
        told = multiplied(one, other)
        one.append(5)
        other[0] = 9
        self.assertEqual(told, [1, 2])


class PiecesTest(Asking):
    def by_hand(self, board):
        """Cells are numbered and the numbers of those that meet made the same, until nothing changes."""
        lots = {cell: {cell} for cell in board[2]}
        for cell in board[2]:
            for other in board[2]:
                if cell[0] == other[0] or cell[1] == other[1]:
                    joined = lots[cell] | lots[other]
                    for each in joined:
                        lots[each] = joined
        return sorted({tuple(sorted(lot)) for lot in lots.values()})

    def test_known_boards(self):
        self.tell([], pieces, empty(1, 1))
        self.tell([], pieces, empty(6, 6))
        self.tell([((0, 0),)], pieces, full(1, 1))
        self.tell([full(6, 6)[2]], pieces, full(6, 6))
        self.tell([((0, 0), (0, 2), (1, 2))], pieces, UNEVEN)
        self.tell([LONG[2]], pieces, LONG)
        self.tell([TALL[2]], pieces, TALL)
        self.tell([((0, 0),), ((1, 1),)], pieces, read("#./.#"))
        self.tell([((0, 1),), ((1, 0),)], pieces, read(".#/#."))
        self.tell([((at, 5 - at),) for at in range(6)], pieces, (6, 6, tuple((at, 5 - at) for at in range(6))))
        self.tell(
            [((0, 0), (0, 5), (5, 0), (5, 5)), ((1, 2),), ((2, 1),), ((3, 3), (3, 4))], pieces, LARGE,
        )
        self.tell([((0, 0), (2, 0), (2, 2)), ((1, 1), (3, 1))], pieces, read("#../.#./#.#/.#."))

    def test_a_long_way_from_cell_to_cell(self):
        # Each cell meets only the one ahead and the one behind, the ends do not meet.
        way = ((0, 5), (1, 4), (1, 5), (2, 3), (2, 4), (3, 2), (3, 3), (4, 1), (4, 2), (5, 0), (5, 1))
        self.tell([way], pieces, (6, 6, way))
        # Without (3, 2) it is broken in two.
        self.tell([way[:5] + ((3, 3),), way[7:]], pieces, (6, 6, way[:5] + way[6:]))
        # The first and the last cell hang together only by cells between, far down.
        self.tell([((0, 0), (0, 5), (4, 0), (4, 3), (5, 3), (5, 5)), ((1, 1), (1, 2))], pieces,
                  (6, 6, ((0, 0), (0, 5), (1, 1), (1, 2), (4, 0), (4, 3), (5, 3), (5, 5))))

    def test_small_boards(self):
        for board in small_boards() + all_boards(3, 3):
            self.tell(self.by_hand(board), pieces, board)

    def test_larger_boards_and_edges(self):
        for board in DRAWN + EDGES:
            self.tell_soon(self.by_hand(board), pieces, board)
            back = sorted(tuple(sorted((row, column) for column, row in piece)) for piece in pieces(turned(board)))
            self.tell(back, pieces, board)

    def test_pieces_put_together(self):
        one, other = read("##/#."), read(".#/#.")
        self.assertEqual(pieces(beside(one, other)), [((0, 0), (0, 1), (1, 0)), ((2, 3),), ((3, 2),)])
        self.assertEqual(counts_by_hand(beside(one, other)), multiplied(counts_by_hand(one), counts_by_hand(other)))


if __name__ == "__main__":
    unittest.main()
