"""Promises 17 to 19, with 2 where it bears on them: orders of a square board, and hits and counts by numbers."""

import unittest
from fractions import Fraction
from itertools import permutations, product
from math import comb, factorial

from asking import Asking
from oracles import counts_by_hand, hit_counts_by_hand, hits_by_hand, orders_hitting
from rooklands.boards import turned
from rooklands.errors import NoCounts, NoHits, NoNumber, NoOrder, NotSquare
from rooklands.hits import counts_by, first_hitting, hit_counts, hits_by, hits_of, next_hitting
from rooklands.texts import read
from samples import (
    DRAWN, EDGES, LARGE, LONG, NO_ORDERS_OF_TWO, TALL, UNEVEN, all_boards, drawn, empty, full, odd_things,
)

SIX = (0, 1, 2, 3, 4, 5)
DIAGONAL = tuple((at, at) for at in SIX)
# Places on the diagonal and beside it, all around: the hits of couples at a round table.
TABLE = (6, 6, tuple(sorted(DIAGONAL + tuple((at, (at + 1) % 6) for at in SIX))))
STEPS = (6, 6, tuple((row, column) for row in SIX for column in range(row)))
SMALL_SQUARES = [board for high in (1, 2, 3) for board in all_boards(high, high)]
LARGER_SQUARES = [board for board in DRAWN + EDGES if board[0] == board[1] > 1] + [
    (6, 6, DIAGONAL), TABLE, STEPS, drawn(20, 4, 4, 5), drawn(21, 4, 4, 7), drawn(22, 5, 5, 5),
]
NOT_SQUARE = [UNEVEN, turned(UNEVEN), LONG, TALL, full(5, 6), full(6, 5), empty(1, 2), empty(2, 1)]


class HitsOfTest(Asking):
    def test_known_boards(self):
        board = read("##./.#./#.#")
        self.tell(((0, 0), (1, 1), (2, 2)), hits_of, board, (0, 1, 2))
        self.tell(((0, 0),), hits_of, board, (0, 2, 1))
        self.tell(((0, 1), (2, 2)), hits_of, board, (1, 0, 2))
        self.tell(((0, 1), (2, 0)), hits_of, board, (1, 2, 0))
        self.tell((), hits_of, board, (2, 0, 1))
        self.tell(((1, 1), (2, 0)), hits_of, board, (2, 1, 0))
        self.tell(((0, 0),), hits_of, full(1, 1), (0,))
        self.tell((), hits_of, empty(1, 1), (0,))
        self.tell(DIAGONAL, hits_of, full(6, 6), SIX)
        self.tell((), hits_of, empty(6, 6), SIX)
        self.tell(((0, 5), (1, 2), (2, 1), (3, 3), (5, 0)), hits_of, LARGE, (5, 2, 1, 3, 4, 0))

    def test_each_order(self):
        for board in SMALL_SQUARES + LARGER_SQUARES:
            for order in permutations(range(board[0])):
                self.assertEqual(repr(hits_of(board, order)), repr(hits_by_hand(board, order)))

    def test_not_square(self):
        for board in NOT_SQUARE:
            for order in permutations(range(board[0])):
                self.refuse(NotSquare, hits_of, board, order)
            self.refuse(NotSquare, hits_of, board, tuple(range(board[1])))

    def test_no_order(self):
        for order in NO_ORDERS_OF_TWO:
            self.refuse(NoOrder, hits_of, full(2, 2), order)
            self.refuse(NoOrder, hits_of, empty(2, 2), order)
        for thing in odd_things():
            self.refuse(NoOrder, hits_of, full(6, 6), thing)
            if repr(thing) != "(0,)":
                self.refuse(NoOrder, hits_of, full(1, 1), thing)

    def test_not_square_goes_ahead_of_no_order(self):
        for board in NOT_SQUARE:
            for thing in odd_things() + NO_ORDERS_OF_TWO:
                self.refuse(NotSquare, hits_of, board, thing)


class HitCountsTest(Asking):
    def test_known_boards(self):
        self.tell([1, 0], hit_counts, empty(1, 1))
        self.tell([0, 1], hit_counts, full(1, 1))
        self.tell([0, 0, 2], hit_counts, full(2, 2))
        self.tell([1, 0, 1], hit_counts, read("#./.#"))
        self.tell([0, 2, 0], hit_counts, read("##/.."))
        self.tell([2, 3, 0, 1], hit_counts, read("#../.#./..#"))
        self.tell([6, 0, 0, 0], hit_counts, empty(3, 3))
        self.tell_soon([720] + [0] * 6, hit_counts, empty(6, 6))
        self.tell_soon([0] * 6 + [720], hit_counts, full(6, 6))
        self.tell_soon([265, 264, 135, 40, 15, 0, 1], hit_counts, (6, 6, DIAGONAL))
        self.tell_soon([80, 192, 210, 152, 60, 24, 2], hit_counts, TABLE)
        self.tell_soon([1, 57, 302, 302, 57, 1, 0], hit_counts, STEPS)

    def test_against_all_orders(self):
        for board in SMALL_SQUARES + LARGER_SQUARES:
            self.tell(hit_counts_by_hand(board), hit_counts, board)

    def test_not_square(self):
        for board in NOT_SQUARE:
            self.refuse(NotSquare, hit_counts, board)


class HittingTest(Asking):
    def test_known_boards(self):
        board = read("##./.#./#.#")
        self.tell((2, 0, 1), first_hitting, board, 0)
        self.tell((0, 2, 1), first_hitting, board, 1)
        self.tell((1, 0, 2), first_hitting, board, 2)
        self.tell((0, 1, 2), first_hitting, board, 3)
        self.tell((1, 2, 0), next_hitting, board, (1, 0, 2), 2)
        self.tell((2, 1, 0), next_hitting, board, (1, 2, 0), 2)
        self.tell(None, next_hitting, board, (2, 1, 0), 2)
        self.tell((1, 0, 2), next_hitting, board, (0, 1, 2), 2)
        self.tell(None, next_hitting, board, (0, 1, 2), 3)
        self.tell((0,), first_hitting, full(1, 1), 1)
        self.tell(None, first_hitting, full(1, 1), 0)
        self.tell((0,), first_hitting, empty(1, 1), 0)
        self.tell(None, first_hitting, empty(1, 1), 1)
        self.tell(None, next_hitting, full(1, 1), (0,), 1)
        self.tell(None, first_hitting, (6, 6, DIAGONAL), 5)
        self.tell_soon((1, 0, 3, 2, 5, 4), first_hitting, (6, 6, DIAGONAL), 0)
        self.tell_soon((1, 0, 3, 4, 5, 2), next_hitting, (6, 6, DIAGONAL), (1, 0, 3, 2, 5, 4), 0)
        self.tell_soon(None, next_hitting, full(6, 6), (5, 4, 3, 2, 1, 0), 6)
        self.tell_soon((5, 4, 3, 2, 1, 0), next_hitting, full(6, 6), (5, 4, 3, 2, 0, 1), 6)

    def test_each_order_of_small_boards(self):
        for board in SMALL_SQUARES:
            for many in range(board[0] + 1):
                wanted = orders_hitting(board, many)
                self.tell(wanted[0] if wanted else None, first_hitting, board, many)
                for order in permutations(range(board[0])):
                    behind = [other for other in wanted if other > order]
                    self.tell(behind[0] if behind else None, next_hitting, board, order, many)

    def test_some_orders_of_larger_boards(self):
        for board in LARGER_SQUARES:
            for many in range(board[0] + 1):
                wanted = orders_hitting(board, many)
                self.tell_soon(wanted[0] if wanted else None, first_hitting, board, many)
                for order in list(permutations(range(board[0])))[::113] + wanted[-2:]:
                    behind = [other for other in wanted if other > order]
                    self.tell_soon(behind[0] if behind else None, next_hitting, board, order, many)

    def test_one_after_the_other(self):
        board = drawn(20, 4, 4, 5)
        for many in range(5):
            order, told = first_hitting(board, many), []
            while order is not None:
                told.append(order)
                order = next_hitting(board, order, many)
            self.assertEqual(told, orders_hitting(board, many))

    def test_no_number(self):
        for board in (full(1, 1), full(3, 3), LARGE, empty(6, 6)):
            order = tuple(range(board[0]))
            for many in (-1, -2, board[0] + 1, board[0] + 2, 40, 10 ** 39, -(10 ** 39), True, False, None, "1", [1]):
                self.refuse(NoNumber, first_hitting, board, many)
                self.refuse(NoNumber, next_hitting, board, order, many)
            for thing in odd_things():
                if not (type(thing) is int and 0 <= thing <= board[0]):
                    self.refuse(NoNumber, first_hitting, board, thing)
                    self.refuse(NoNumber, next_hitting, board, order, thing)

    def test_no_order(self):
        for order in NO_ORDERS_OF_TWO:
            self.refuse(NoOrder, next_hitting, full(2, 2), order, 2)
        for thing in odd_things():
            self.refuse(NoOrder, next_hitting, LARGE, thing, 0)

    def test_not_square(self):
        for board in NOT_SQUARE:
            for many in (0, 1, board[0], board[1]):
                self.refuse(NotSquare, first_hitting, board, many)
                self.refuse(NotSquare, next_hitting, board, tuple(range(board[0])), many)
                self.refuse(NotSquare, next_hitting, board, tuple(range(board[1])), many)

    def test_which_refusal_goes_first(self):
        for board in NOT_SQUARE:
            for thing in odd_things():
                self.refuse(NotSquare, first_hitting, board, thing)
                self.refuse(NotSquare, next_hitting, board, thing, 0)
                self.refuse(NotSquare, next_hitting, board, tuple(range(board[0])), thing)
                self.refuse(NotSquare, next_hitting, board, thing, thing)
        for order in NO_ORDERS_OF_TWO:
            for many in (-1, 3, True, False, None, "0", []):
                self.refuse(NoOrder, next_hitting, full(2, 2), order, many)


class ByNumbersTest(Asking):
    def counts_of_hits(self, hits):
        """As the document tells it of each k, in fractions; None where some is no whole number."""
        high = len(hits) - 1
        counts = [
            Fraction(sum(comb(many, size) * hits[many] for many in range(high + 1)), factorial(high - size))
            for size in range(high + 1)
        ]
        whole = all(count.denominator == 1 for count in counts)
        return [int(count) for count in counts] if whole else None

    def check_hits_of_counts(self, counts):
        """The hits are just those that lead back, as the document tells it of each k."""
        hits = hits_by(counts)
        self.assertTrue(all(type(number) is int for number in hits))
        self.assertEqual(len(hits), len(counts))
        self.assertEqual(self.counts_of_hits(hits), counts)
        self.tell(hits, hits_by, counts)
        self.tell(counts, counts_by, hits)

    def test_known_lists(self):
        for counts, hits in (
            ([1, 0], [1, 0]), ([1, 1], [0, 1]), ([1, 4, 2], [0, 0, 2]), ([1, 3, 3, 1], [2, 3, 0, 1]),
            ([1, 9, 18, 6], [0, 0, 0, 6]), ([1, 0, 0, 0], [6, 0, 0, 0]),
            ([1, 12, 54, 112, 105, 36, 2], [80, 192, 210, 152, 60, 24, 2]),
            ([1, 15, 65, 90, 31, 1, 0], [1, 57, 302, 302, 57, 1, 0]),
        ):
            self.tell(hits, hits_by, counts)
            self.tell(counts, counts_by, hits)

    def test_counts_that_no_board_has(self):
        self.tell([-1, 2], hits_by, [1, 2])
        self.tell([1, 2], counts_by, [-1, 2])
        self.tell([7, -10, 5], hits_by, [1, 0, 5])
        self.tell([1 - 10 ** 39, 10 ** 39], hits_by, [1, 10 ** 39])
        self.tell([1, 10 ** 39], counts_by, [1 - 10 ** 39, 10 ** 39])

    def test_counts_below_nought_are_told_of_hits(self):
        self.tell([1, -2], counts_by, [3, -2])
        self.tell([0, 0], counts_by, [0, 0])
        self.tell([-1, -1], counts_by, [0, -1])
        self.tell([5, 2], counts_by, [3, 2])
        self.tell([-1, -4, -2], counts_by, [0, 0, -2])

    def test_hits_whose_counts_are_no_whole_numbers(self):
        for hits in ([1, 0, 0], [0, 1, 0], [0, 0, 1], [1, 2, 0], [-1, 0, 0], [0, 1, 0, 0], [6, 0, 0, 1], [0, 0, 0, 3],
                     [3, 0, 0, 3], [2, 2, 1, 1], [1] + [0] * 12, [0] * 12 + [1], [5, 0, 0, 0], [7, 0, 0, 0]):
            self.tell(None, counts_by, hits)
        # The first counts are whole here, and a later one is not.
        self.tell(None, counts_by, [5, 1, 0, 0])
        self.tell(None, counts_by, [19, 4, 1, 0, 0])

    def test_short_lists_against_the_sums(self):
        for length in (2, 3, 4):
            for numbers in product(range(-2, 4), repeat=length):
                self.tell(self.counts_of_hits(list(numbers)), counts_by, list(numbers))
        for numbers in product(range(4), repeat=3):
            for length in (1, 2, 3):
                self.check_hits_of_counts([1] + list(numbers)[:length])

    def test_lists_of_each_length(self):
        for length in range(2, 14):
            self.check_hits_of_counts([1] + [(7 * at + length) % 10 for at in range(length - 1)])
            self.check_hits_of_counts([1] + [10 ** 39 - at for at in range(length - 1)])
            self.check_hits_of_counts([1] + [0] * (length - 1))
            high = length - 1
            self.tell([0] * high + [factorial(high)], hits_by,
                      [comb(high, size) ** 2 * factorial(size) for size in range(high + 1)])
            self.tell([factorial(high)] + [0] * high, hits_by, [1] + [0] * high)
            self.tell([0] * length, counts_by, [0] * length)
            self.tell(self.counts_of_hits([10 ** 39] * length), counts_by, [10 ** 39] * length)
            self.tell(self.counts_of_hits([-(10 ** 39)] * length), counts_by, [-(10 ** 39)] * length)

    def test_against_boards(self):
        for board in SMALL_SQUARES + LARGER_SQUARES:
            counts, hits = counts_by_hand(board), hit_counts_by_hand(board)
            self.tell(hits, hits_by, counts)
            self.tell(counts, counts_by, hits)

    def test_no_counts(self):
        for thing in [
            [], [1], [1] * 14, [1] + [0] * 13, [1] * 15, [1] * 120, [0, 1], [2, 1], [-1, 1], [0, 0], [10 ** 39, 0],
            [1, -1], [1, 0, -1], [1, -(10 ** 39)], [1] + [0] * 11 + [-1], [True, 1], [1, True], [1, False],
            [True, True], [False, 1], [1, None], [None, 1], [1, "1"], ["1", 1], [1, [1]], [[1], 1], [1, (1,)], [1, {}],
            [1, 3, True],
            (1, 0), (1, 1), (1, 4, 2), ((1, 1),), [(1, 1)], [[1, 1]], {0: 1, 1: 1}, {1: 1}, "11", "1", "", None, 1, 11,
            True, False, (), {}, (1,) * 13,
        ]:
            self.refuse(NoCounts, hits_by, thing)
        for thing in odd_things():
            self.refuse(NoCounts, hits_by, thing)
            if not (type(thing) is int and thing >= 0):
                self.refuse(NoCounts, hits_by, [1, thing])
                self.refuse(NoCounts, hits_by, [1, thing, 0])
            if repr(thing) != "1":
                self.refuse(NoCounts, hits_by, [thing, 0])

    def test_no_hits(self):
        for thing in [
            [], [1], [0], [1] * 14, [0] * 14, [0] * 15, [0] * 120, [True, 1], [1, True], [1, False], [False, 0],
            [True, True], [1, None], [None, 1], [1, "1"], ["1", 1], [1, [1]], [[1], 1], [1, (1,)], [1, {}],
            [0] * 12 + [False], (1, 0), (0, 1), (0, 0, 2), ((0, 1),), [(0, 1)], [[0, 1]], {0: 0, 1: 1}, {1: 1}, "01",
            "", None, 0, 1, 10, True, False, (), {}, (0,) * 13,
        ]:
            self.refuse(NoHits, counts_by, thing)
        for thing in odd_things():
            if repr(thing) != "[0, 1]":
                self.refuse(NoHits, counts_by, thing)
            if type(thing) is not int:
                self.refuse(NoHits, counts_by, [1, thing])
                self.refuse(NoHits, counts_by, [thing, 1])
                self.refuse(NoHits, counts_by, [0, 0, thing])

    def test_lists_handed_in_may_be_changed_later(self):
        for ask, given, wanted in ((hits_by, [1, 4, 2], [0, 0, 2]), (counts_by, [0, 0, 2], [1, 4, 2])):
            told = ask(given)
            given[0] = given[1] = 7
            given.append(5)
            self.assertEqual(told, wanted)


if __name__ == "__main__":
    unittest.main()
