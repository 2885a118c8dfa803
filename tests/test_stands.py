"""Promises 8 to 10, with 2 where it bears on them: stands, their counts and their numbers."""

import unittest
from itertools import permutations, product
from math import comb, factorial

from asking import Asking
from oracles import all_stands_by_hand, counts_by_hand, stands_by_hand, subsets
from rooklands.errors import NoNumber, NoSize, NoStand, TooMany
from rooklands.stands import counts, is_stand, next_stand, number_of, stand_at, stands_of
from rooklands.texts import read
from samples import DRAWN, EDGES, LARGE, LONG, TALL, UNEVEN, all_boards, empty, full, odd_things, small_boards

DIAGONAL = tuple((at, at) for at in range(6))

# Of UNEVEN, the board #.#/..#, whose cells are (0, 0), (0, 2) and (1, 2).
NO_STANDS_OF_UNEVEN = [
    # cells that the board has not
    ((0, 1),), ((1, 0),), ((1, 1),), ((0, 0), (1, 1)), ((0, 1), (1, 2)), ((0, 1), (1, 0)),
    # below nought or beyond
    ((-1, 0),), ((0, -1),), ((2, 0),), ((0, 3),), ((0, 0), (2, 2)), ((0, 0), (1, 3)), ((10 ** 39, 0),),
    ((0, -(10 ** 39)),), ((-1, -1), (1, 2)), ((-2, 0),), ((-1, 2),), ((0, -1), (1, 2)),
    # in one row or one column
    ((0, 0), (0, 2)), ((0, 2), (1, 2)), ((0, 0), (0, 2), (1, 2)),
    # not rising, or twice
    ((1, 2), (0, 0)), ((0, 0), (0, 0)), ((0, 0), (0, 0), (1, 2)), ((0, 0), (1, 2), (1, 2)), ((1, 2), (1, 2)),
    # truths in the place of numbers
    ((False, 0),), ((0, False),), ((False, False),), ((True, 2),), ((0, 0), (True, 2)), ((False, 2),), True, False,
    (True,), (False, True), ((0, 0), True),
    # lists, dicts and texts in the place of tuples
    [], [(0, 0)], [(0, 0), (1, 2)], ([0, 0],), ([0, 0], (1, 2)), ((0, 0), [1, 2]), [[0, 0]], [[0, 0], [1, 2]],
    {}, {(0, 0): True}, {0: 0}, {(0, 0): (1, 2)}, "", "00", ("00",), ((0, "0"),), (("0", 0),), ("00", "12"),
    # too few parts, too many, or others
    (0, 0), (0, 2), (1, 2), ((0,),), ((),), ((0, 0, 0),), ((0, 0), ()), ((0, 0), (1,)), ((0, 0), (1, 2, 0)),
    (((0, 0),),), (((0, 0), (1, 2)),), ((0, 0), 2), ((0, 0), None), (None,), None, ((None, 0),), ((0, None),),
    ((0, 0), ((1, 2),)), (((0,), 0),), ((0, (0,)),), (([0], 0),), ((0, {}),), 0, 1,
]


class IsStandTest(Asking):
    def test_known_stands(self):
        for stand in ((), ((0, 0),), ((0, 2),), ((1, 2),), ((0, 0), (1, 2))):
            self.tell(True, is_stand, UNEVEN, stand)
        self.tell(True, is_stand, full(6, 6), DIAGONAL)
        self.tell(True, is_stand, full(1, 1), ((0, 0),))
        self.tell(True, is_stand, LONG, ((0, 3),))
        self.tell(True, is_stand, TALL, ((5, 0),))
        self.tell(False, is_stand, LONG, ((0, 2), (0, 3)))
        self.tell(False, is_stand, TALL, ((2, 0), (5, 0)))

    def test_none_is_a_stand_of_each_board(self):
        for board in small_boards() + EDGES:
            self.tell(True, is_stand, board, ())

    def test_each_lot_of_cells_of_small_boards(self):
        for board in small_boards():
            stands = set(all_stands_by_hand(board))
            for lot in subsets(board[2]):
                self.assertIs(is_stand(board, lot), lot in stands, (board, lot))

    def test_two_places_near_a_board_of_two_rows_and_columns(self):
        places = [(row, column) for row in range(-1, 4) for column in range(-1, 4)]
        for board in all_boards(2, 2):
            stands = all_stands_by_hand(board)
            for one, other in product(places, repeat=2):
                self.assertIs(is_stand(board, (one, other)), (one, other) in stands)
                self.assertIs(is_stand(board, (one,)), (one,) in stands)

    def test_orders_of_six(self):
        for columns in permutations(range(6)):
            self.assertIs(is_stand(full(6, 6), tuple(enumerate(columns))), True)
        for columns in product(range(3), repeat=3):
            lot = tuple(enumerate(columns))
            self.assertIs(is_stand(full(6, 6), lot), len(set(columns)) == 3)

    def test_no_stands(self):
        for thing in NO_STANDS_OF_UNEVEN:
            self.tell(False, is_stand, UNEVEN, thing)

    def test_things_of_every_kind(self):
        for thing in odd_things():
            for board in (full(2, 2), empty(6, 6), full(6, 6), LONG):
                self.tell(repr(thing) == "()", is_stand, board, thing)
            self.tell(repr(thing) in ("(0, 0)", "(1, 0)", "(1, 1)"), is_stand, full(2, 2), (thing,))
            self.tell(repr(thing) == "(1, 1)", is_stand, full(2, 2), ((0, 0), thing))
            self.tell(repr(thing) in ("0", "1", "2"), is_stand, full(3, 3), ((thing, 1),))
            self.tell(repr(thing) in ("0", "1", "2"), is_stand, full(3, 3), ((1, thing),))

    def test_what_was_told_is_answered(self):
        for thing in (full(6, 6)[2], full(6, 6), stands_of(full(5, 6), 2), tuple(stands_of(full(5, 6), 2))):
            self.tell(False, is_stand, full(6, 6), thing)


class CountsTest(Asking):
    def test_known_boards(self):
        for text, wanted in (
            (".", [1, 0]), ("#", [1, 1]), ("#.#/..#", [1, 3, 1]), ("##/##", [1, 4, 2]), ("#.##..", [1, 3]),
            ("./#/#/././#", [1, 3]), ("######", [1, 6]), ("#/#/#/#/#/#", [1, 6]), ("./././././.", [1, 0]),
            ("#../.#./..#", [1, 3, 3, 1]), ("###/###/###", [1, 9, 18, 6]), (".##/#.#/##.", [1, 6, 9, 2]),
            ("##/##/##", [1, 6, 6]), ("###/###", [1, 6, 6]), (".../...", [1, 0, 0]), ("##./##./...", [1, 4, 2, 0]),
        ):
            self.tell(wanted, counts, read(text))

    def test_against_all_stands_of_small_boards(self):
        for board in small_boards() + all_boards(3, 3):
            self.tell(counts_by_hand(board), counts, board)

    def test_against_all_stands_of_larger_boards(self):
        for board in DRAWN + EDGES:
            self.tell(counts_by_hand(board), counts, board)

    def test_all_places_are_cells(self):
        for high in range(1, 7):
            for wide in range(1, 7):
                wanted = [comb(high, size) * comb(wide, size) * factorial(size) for size in range(min(high, wide) + 1)]
                self.tell_soon(wanted, counts, full(high, wide))

    def test_no_place_is_a_cell(self):
        for high in range(1, 7):
            for wide in range(1, 7):
                self.tell([1] + [0] * min(high, wide), counts, empty(high, wide))

    def test_known_boards_of_six(self):
        steps = (6, 6, tuple((row, column) for row in range(6) for column in range(row)))
        self.tell_soon([1, 15, 65, 90, 31, 1, 0], counts, steps)
        self.tell_soon([1, 6, 15, 20, 15, 6, 1], counts, (6, 6, DIAGONAL))
        # Places on the diagonal and beside it, all around: the counts of couples at a round table.
        table = (6, 6, tuple(sorted(DIAGONAL + tuple((at, (at + 1) % 6) for at in range(6)))))
        self.tell_soon([1, 12, 54, 112, 105, 36, 2], counts, table)
        off_diagonal = (6, 6, tuple(cell for cell in full(6, 6)[2] if cell not in DIAGONAL))
        self.assertEqual(counts(off_diagonal)[6], 265)


class StandsOfTest(Asking):
    def test_known_boards(self):
        self.tell([()], stands_of, UNEVEN, 0)
        self.tell([((0, 0),), ((0, 2),), ((1, 2),)], stands_of, UNEVEN, 1)
        self.tell([((0, 0), (1, 2))], stands_of, UNEVEN, 2)
        self.tell([((0, 0), (1, 1)), ((0, 1), (1, 0))], stands_of, full(2, 2), 2)
        self.tell([((0, 0),), ((0, 2),), ((0, 3),)], stands_of, LONG, 1)
        self.tell([((1, 0),), ((2, 0),), ((5, 0),)], stands_of, TALL, 1)
        self.tell([], stands_of, empty(6, 6), 1)
        self.tell([], stands_of, empty(6, 6), 6)
        self.tell([()], stands_of, empty(6, 6), 0)
        self.tell([()], stands_of, full(6, 6), 0)
        self.tell([DIAGONAL], stands_of, (6, 6, DIAGONAL), 6)

    def test_against_all_stands(self):
        for board in small_boards() + all_boards(3, 3) + DRAWN + EDGES:
            for size, many in enumerate(counts_by_hand(board)):
                if many > 300:
                    self.refuse(TooMany, stands_of, board, size)
                else:
                    self.tell(stands_by_hand(board, size), stands_of, board, size)

    def test_at_three_hundred_and_one_more(self):
        for text, size in (
            ("######/######/######/######/######", 2), ("######/#.#..#/######/######", 3),
            (".#####/######/######/######", 4), ("#..##./#.#.##/.###.#/#..###/#.#.#./#.##.#", 5),
        ):
            self.assertEqual(counts_by_hand(read(text))[size], 300)
            self.tell_soon(stands_by_hand(read(text), size), stands_of, read(text), size)
        for text, size in (
            ("#####./##..##/####.#/..##.#/..#.#.", 3), (".###../...###/####../.##..#/..####/....#.", 4),
            (".####./...#.#/###..#/#.##.#/##..##/###...", 5),
        ):
            self.assertEqual(counts_by_hand(read(text))[size], 301)
            self.refuse(TooMany, stands_of, read(text), size)
        for size in range(2, 7):
            self.refuse(TooMany, stands_of, full(6, 6), size)

    def test_few_greatest_stands_of_a_board_of_many(self):
        # Many stands begin well here, and none can be ended.
        board = (6, 6, tuple(cell for cell in full(6, 6)[2] if cell[0] < 5))
        self.tell_soon([], stands_of, board, 6)

    def test_no_size(self):
        for board, most in ((UNEVEN, 2), (full(3, 2), 2), (full(6, 6), 6), (LONG, 1), (TALL, 1), (empty(1, 1), 1)):
            for size in (-1, -2, -10, most + 1, most + 2, 7, 40, 10 ** 39, -(10 ** 39)):
                self.refuse(NoSize, stands_of, board, size)
            self.assertEqual(len(stands_by_hand(board, 1)), len(stands_of(board, 1)))

    def test_no_size_of_other_kinds(self):
        for board in (UNEVEN, full(6, 6), empty(6, 6)):
            for thing in odd_things():
                if repr(thing) not in ("0", "1", "2", "6"):
                    self.refuse(NoSize, stands_of, board, thing)
        for size in (True, False, "1", [1], (1,), None, {1: 1}):
            self.refuse(NoSize, stands_of, UNEVEN, size)


class NumbersTest(Asking):
    def test_each_number_of_small_boards(self):
        for board in small_boards() + DRAWN[:2] + [LONG, TALL, LARGE]:
            for size in range(min(board[:2]) + 1):
                stands = stands_by_hand(board, size)
                for number, stand in enumerate(stands):
                    self.tell(stand, stand_at, board, size, number)
                    self.tell(number, number_of, board, stand)
                    following = stands[number + 1] if number + 1 < len(stands) else None
                    self.tell(following, next_stand, board, stand)
                for number in (-1, len(stands), len(stands) + 1, 10 ** 39):
                    self.refuse(NoNumber, stand_at, board, size, number)

    def test_some_numbers_of_larger_boards(self):
        for board in DRAWN + EDGES:
            for size in range(min(board[:2]) + 1):
                stands = stands_by_hand(board, size)
                for number in sorted({0, 1, len(stands) // 3, len(stands) - 2, len(stands) - 1}):
                    if 0 <= number < len(stands):
                        self.tell(stands[number], stand_at, board, size, number)
                        self.tell(number, number_of, board, stands[number])
                        following = stands[number + 1] if number + 1 < len(stands) else None
                        self.tell(following, next_stand, board, stands[number])
                self.refuse(NoNumber, stand_at, board, size, len(stands))

    def test_all_places_of_six_are_cells(self):
        for size, many in ((1, 36), (2, 450), (3, 2400), (4, 5400), (5, 4320), (6, 720)):
            stands = stands_by_hand(full(6, 6), size)
            self.assertEqual(len(stands), many)
            for number in range(0, many, 97):
                self.tell_soon(stands[number], stand_at, full(6, 6), size, number)
                self.tell_soon(number, number_of, full(6, 6), stands[number])
            self.tell_soon(stands[many - 1], stand_at, full(6, 6), size, many - 1)
            self.tell_soon(stands[1], next_stand, full(6, 6), stands[0])
            self.tell_soon(stands[many - 1], next_stand, full(6, 6), stands[many - 2])
            self.tell_soon(None, next_stand, full(6, 6), stands[many - 1])
            self.refuse(NoNumber, stand_at, full(6, 6), size, many)
            self.refuse(NoNumber, stand_at, full(6, 6), size, -1)

    def test_one_after_the_other(self):
        board = read("#.##/####/.#.#/##.#")
        for size in range(5):
            stand, told = stand_at(board, size, 0), []
            while stand is not None:
                told.append(stand)
                stand = next_stand(board, stand)
            self.assertEqual(told, stands_by_hand(board, size))

    def test_the_stand_of_no_cell(self):
        for board in EDGES:
            self.tell((), stand_at, board, 0, 0)
            self.tell(0, number_of, board, ())
            self.tell(None, next_stand, board, ())
            self.refuse(NoNumber, stand_at, board, 0, 1)
            self.refuse(NoNumber, stand_at, board, 0, -1)

    def test_no_stand_has_the_size(self):
        for number in (0, 1, -1, True, None):
            self.refuse(NoNumber, stand_at, empty(6, 6), 3, number)
            self.refuse(NoNumber, stand_at, empty(1, 1), 1, number)

    def test_no_number_of_other_kinds(self):
        for thing in odd_things():
            if repr(thing) not in ("0", "1", "2"):
                self.refuse(NoNumber, stand_at, UNEVEN, 1, thing)
            if repr(thing) not in ("0", "1", "2", "6", "7"):
                self.refuse(NoNumber, stand_at, full(6, 6), 4, thing)
        for number in (True, False, "0", [0], (0,), None, 3, -1, -3):
            self.refuse(NoNumber, stand_at, UNEVEN, 1, number)

    def test_no_size(self):
        for board, most in ((UNEVEN, 2), (full(3, 2), 2), (full(6, 6), 6), (LONG, 1), (TALL, 1), (empty(1, 1), 1)):
            for size in (-1, -2, most + 1, most + 2, 7, 10 ** 39, -(10 ** 39), True, False, None, "1", [1], (1,)):
                self.refuse(NoSize, stand_at, board, size, 0)
        for thing in odd_things():
            if repr(thing) not in ("0", "1", "2", "6"):
                self.refuse(NoSize, stand_at, full(6, 6), thing, 0)

    def test_no_size_goes_ahead_of_no_number(self):
        for size in (-1, 3, True, False, None, "1", []):
            for number in (-1, 100, True, False, None, "0", [], ()):
                self.refuse(NoSize, stand_at, UNEVEN, size, number)

    def test_what_is_no_stand(self):
        for ask in (number_of, next_stand):
            for thing in NO_STANDS_OF_UNEVEN:
                self.refuse(NoStand, ask, UNEVEN, thing)
            for thing in odd_things():
                if repr(thing) != "()":
                    self.refuse(NoStand, ask, full(6, 6), thing)
                    self.refuse(NoStand, ask, empty(1, 1), thing)
                if repr(thing) not in ("(0, 0)", "(1, 0)", "(1, 1)"):
                    self.refuse(NoStand, ask, full(2, 2), (thing,))
            self.refuse(NoStand, ask, (6, 6, DIAGONAL), DIAGONAL[:5] + ((5, 4),))
            self.refuse(NoStand, ask, full(6, 6), full(6, 6)[2])
            self.refuse(NoStand, ask, empty(6, 6), DIAGONAL)


if __name__ == "__main__":
    unittest.main()
