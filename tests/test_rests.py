"""Promises 20 to 22, with 2 where it bears on them: rows of counts, rest counts, counts of all places."""

import unittest
from itertools import product
from math import comb, factorial

from asking import Asking
from oracles import counts_by_hand, rest_counts_by_hand
from rooklands.boards import rest
from rooklands.errors import NoCounts, NoSize
from rooklands.rests import full_counts, is_counts, rest_counts, rests_well
from samples import DRAWN, EDGES, all_boards, full, odd_things, small_boards

SIZES = [(high, wide) for high in range(1, 13) for wide in range(1, 13)]
NO_SIZES = [
    0, -1, 13, 14, 100, 10 ** 39, -(10 ** 39), True, False, None, "", "1", "12", [], [1], (), (1,), {}, {1: 1},
]
FAR = 10 ** 40 - 1

# Of two rows and three columns.
NO_COUNTS_OF_TWO = [
    [], [1], [1, 0], [1, 6], [1, 6, 6, 0], [1, 0, 0, 0], [1] * 120, [0, 6, 6], [2, 6, 6], [-1, 6, 6], [0, 0, 0],
    [10 ** 39, 0, 0], [1, -1, 0], [1, 0, -1], [1, -(10 ** 39), 0], [True, 6, 6], [False, 0, 0], [1, True, 0],
    [1, 6, True], [1, 0, False], [1, False, 0], [True, True, True], [None, 6, 6], [1, None, 6], [1, 6, None],
    ["1", 6, 6], [1, "6", 6], [1, 6, "6"], [1, [6], 6], [[1], 6, 6], [1, 6, (6,)], [1, 6, {}], [1, [], []],
    [[1, 6, 6]], [(1, 6, 6)], (1, 6, 6), (1, 3, 1), ((1, 6, 6),), {0: 1, 1: 6, 2: 6}, {1: 1, 6: 6, 3: 3}, "166", "1",
    "", None, 0, 1, 3, 166, 10 ** 39, True, False, (), {},
]


class IsCountsTest(Asking):
    def test_known_lists(self):
        for high, wide, thing in (
            (1, 1, [1, 0]), (1, 1, [1, 1]), (1, 1, [1, 2]), (1, 12, [1, 12]), (12, 1, [1, 0]), (2, 3, [1, 6, 6]),
            (3, 2, [1, 3, 1]), (2, 2, [1, 0, 7]), (1, 1, [1, FAR]), (12, 12, [1] + [FAR] * 12),
            (12, 12, [1] + [0] * 12), (11, 12, [1] + [5] * 11), (12, 11, [1] * 12),
        ):
            self.tell(True, is_counts, high, wide, thing)

    def test_a_number_more_or_fewer(self):
        for high, wide in SIZES:
            for length in range(16):
                thing = ([1] + [3] * length)[:length]
                self.tell(length == min(high, wide) + 1, is_counts, high, wide, thing)

    def test_no_counts(self):
        for thing in NO_COUNTS_OF_TWO:
            self.tell(False, is_counts, 2, 3, thing)
            self.tell(False, is_counts, 3, 2, thing)

    def test_anything(self):
        for thing in odd_things():
            self.tell(False, is_counts, 1, 1, thing)
            self.tell(False, is_counts, 12, 12, thing)
            is_count = type(thing) is int and thing >= 0
            self.tell(is_count, is_counts, 1, 7, [1, thing])
            self.tell(is_count, is_counts, 2, 2, [1, thing, 0])
            self.tell(is_count, is_counts, 2, 2, [1, 0, thing])
            self.tell(is_count, is_counts, 12, 12, [1] + [0] * 11 + [thing])
            self.tell(repr(thing) == "1", is_counts, 5, 1, [thing, 0])
            self.tell(False, is_counts, 2, 2, [thing])

    def test_short_lists(self):
        for numbers in product(range(-1, 3), repeat=3):
            wanted = numbers[0] == 1 and min(numbers) >= 0
            self.tell(wanted, is_counts, 2, 5, list(numbers))
            self.tell(False, is_counts, 2, 5, tuple(numbers))
            self.tell(False, is_counts, 1, 5, list(numbers))
            self.tell(False, is_counts, 3, 5, list(numbers))

    def test_no_size(self):
        for size in NO_SIZES:
            self.refuse(NoSize, is_counts, size, 1, [1, 0])
            self.refuse(NoSize, is_counts, 1, size, [1, 0])
            self.refuse(NoSize, is_counts, 12, size, [1, 0])
            self.refuse(NoSize, is_counts, size, size, [1, 0])
        for thing in odd_things():
            if not (type(thing) is int and 1 <= thing <= 12):
                self.refuse(NoSize, is_counts, thing, 2, thing)
                self.refuse(NoSize, is_counts, 2, thing, thing)
        self.refuse(NoSize, is_counts, 13, 13, [1] + [0] * 13)
        self.refuse(NoSize, is_counts, 0, 0, [1])


class RestCountsTest(Asking):
    def test_known_lists(self):
        for high, wide, counts, wanted in (
            (1, 1, [1, 0], [1, 1]), (1, 1, [1, 1], [1, 0]), (1, 1, [1, 2], [1, -1]), (2, 3, [1, 3, 1], [1, 3, 1]),
            (2, 2, [1, 2, 1], [1, 2, 1]), (2, 2, [1, 0, 0], [1, 4, 2]), (2, 2, [1, 4, 2], [1, 0, 0]),
            (3, 3, [1, 3, 3, 1], [1, 6, 9, 2]), (1, 12, [1, 5], [1, 7]), (12, 1, [1, 13], [1, -1]),
            (2, 2, [1, 0, 7], [1, 4, 9]), (1, 1, [1, FAR], [1, 1 - FAR]), (2, 3, [1, 0, 0], [1, 6, 6]),
        ):
            self.tell(wanted, rest_counts, high, wide, counts)
            self.tell(wanted, rest_counts, wide, high, counts)

    def test_against_boards_and_their_rests(self):
        for board in small_boards() + all_boards(3, 3) + DRAWN + EDGES:
            high, wide, cells = board
            self.tell(counts_by_hand(rest(board)), rest_counts, high, wide, counts_by_hand(board))

    def test_against_the_sums(self):
        for high, wide in SIZES:
            size = min(high, wide)
            for counts in ([1] + [0] * size, [1] * (size + 1), [1] + [(7 * at + wide) % 10 for at in range(size)],
                           [1] + [FAR - at for at in range(size)], [1] + [0] * (size - 1) + [FAR]):
                self.tell(rest_counts_by_hand(high, wide, counts), rest_counts, high, wide, counts)

    def test_the_rest_of_the_rest(self):
        for high, wide in SIZES:
            counts = [comb(high, size) * comb(wide, size) * factorial(size) for size in range(min(high, wide) + 1)]
            none = [1] + [0] * min(high, wide)
            self.tell(none, rest_counts, high, wide, counts)
            self.tell(counts, rest_counts, high, wide, none)
        for numbers in product(range(8), repeat=2):
            counts = [1] + list(numbers)
            told = rest_counts(2, 4, counts)
            if min(told) >= 0:
                self.tell(counts, rest_counts, 2, 4, told)

    def test_no_counts(self):
        for thing in NO_COUNTS_OF_TWO:
            self.refuse(NoCounts, rest_counts, 2, 3, thing)
            self.refuse(NoCounts, rests_well, 2, 3, thing)
            self.refuse(NoCounts, rests_well, 3, 2, thing)
        for thing in odd_things():
            for high, wide in ((1, 1), (6, 6), (12, 12)):
                self.refuse(NoCounts, rest_counts, high, wide, thing)
                self.refuse(NoCounts, rests_well, high, wide, thing)
            if not (type(thing) is int and thing >= 0):
                self.refuse(NoCounts, rest_counts, 1, 1, [1, thing])
                self.refuse(NoCounts, rests_well, 1, 1, [1, thing])

    def test_numbers_below_nought_that_were_told_are_no_counts(self):
        self.refuse(NoCounts, rest_counts, 1, 1, rest_counts(1, 1, [1, 2]))
        self.refuse(NoCounts, rests_well, 12, 1, rest_counts(12, 1, [1, 13]))

    def test_no_size(self):
        for size in NO_SIZES:
            for ask in (rest_counts, rests_well):
                self.refuse(NoSize, ask, size, 1, [1, 0])
                self.refuse(NoSize, ask, 1, size, [1, 0])
                self.refuse(NoSize, ask, size, size, [1, 0])
        self.refuse(NoSize, rest_counts, 13, 1, [1, 0])
        self.refuse(NoSize, rest_counts, 13, 13, [1] + [0] * 13)
        self.refuse(NoSize, rests_well, 13, 13, [1] + [0] * 13)

    def test_no_size_goes_ahead_of_no_counts(self):
        for size in NO_SIZES:
            for thing in NO_COUNTS_OF_TWO + odd_things():
                for ask in (rest_counts, rests_well):
                    self.refuse(NoSize, ask, size, 3, thing)
                    self.refuse(NoSize, ask, 2, size, thing)

    def test_the_list_handed_in_may_be_changed_later(self):
        counts = [1, 3, 1]
        told = rest_counts(2, 3, counts)
        counts[1] = 7
        counts.append(5)
        self.assertEqual(told, [1, 3, 1])
        self.assertIsNot(told, counts)


class RestsWellTest(Asking):
    def test_known_lists(self):
        for high, wide, counts, wanted in (
            (1, 1, [1, 0], True), (1, 1, [1, 1], True), (1, 1, [1, 2], False), (2, 3, [1, 3, 1], True),
            (2, 2, [1, 5, 9], False), (2, 2, [1, 4, 1], False), (2, 2, [1, 4, 2], True), (2, 2, [1, 4, 3], True),
            (2, 2, [1, 0, FAR], True), (2, 2, [1, FAR, 0], False), (12, 12, [1] + [0] * 12, True),
            (12, 12, [1] + [1] * 12, True), (12, 12, [1] + [0] * 10 + [1, 0], True),
            (12, 12, [1, 145] + [0] * 11, False), (1, 12, [1, 12], True), (12, 1, [1, 13], False),
        ):
            self.assertEqual(min(rest_counts_by_hand(high, wide, counts)) >= 0, wanted, (high, wide, counts))
            self.tell(wanted, rests_well, high, wide, counts)
            self.tell(wanted, rests_well, wide, high, counts)

    def test_boards_rest_well(self):
        for board in small_boards() + DRAWN + EDGES:
            self.tell(True, rests_well, board[0], board[1], counts_by_hand(board))

    def test_short_lists(self):
        for numbers in product(range(8), repeat=2):
            for high, wide in ((2, 2), (2, 3), (5, 2)):
                counts = [1] + list(numbers)
                self.tell(min(rest_counts_by_hand(high, wide, counts)) >= 0, rests_well, high, wide, counts)

    def test_only_one_number_below_nought(self):
        # The last rest count is the only one below 0 here, and there a middle one.
        for counts, below in (([1, 0, 0, 7], [3]), ([1, 7, 8, 0], [2])):
            told = rest_counts_by_hand(3, 3, counts)
            self.assertEqual([size for size, number in enumerate(told) if number < 0], below)
            self.tell(False, rests_well, 3, 3, counts)


class FullCountsTest(Asking):
    def test_known_sizes(self):
        self.tell([1, 1], full_counts, 1, 1)
        self.tell([1, 4, 2], full_counts, 2, 2)
        self.tell([1, 6, 6], full_counts, 2, 3)
        self.tell([1, 6, 6], full_counts, 3, 2)
        self.tell([1, 12], full_counts, 1, 12)
        self.tell([1, 12], full_counts, 12, 1)
        self.tell([1, 9, 18, 6], full_counts, 3, 3)
        self.tell([1, 36, 450, 2400, 5400, 4320, 720], full_counts, 6, 6)
        self.tell_soon(
            [1, 144, 8712, 290400, 5880600, 75271680, 614718720, 3161410560, 9879408000, 17563392000, 15807052800,
             5748019200, 479001600], full_counts, 12, 12,
        )

    def test_boards_of_at_most_six_rows_and_columns(self):
        for high in range(1, 7):
            for wide in range(1, 7):
                self.tell(counts_by_hand(full(high, wide)), full_counts, high, wide)

    def test_against_adding_a_row(self):
        """In a row more, no rook stands, or one in a column that is free: by adding alone."""
        for wide in range(1, 13):
            told = [1] + [0] * 12
            for high in range(1, 13):
                told = [told[0]] + [told[size] + told[size - 1] * max(wide - size + 1, 0) for size in range(1, 13)]
                self.tell(told[:min(high, wide) + 1], full_counts, high, wide)

    def test_no_size(self):
        for size in NO_SIZES:
            self.refuse(NoSize, full_counts, size, 1)
            self.refuse(NoSize, full_counts, 1, size)
            self.refuse(NoSize, full_counts, size, size)
        for thing in odd_things():
            if not (type(thing) is int and 1 <= thing <= 12):
                self.refuse(NoSize, full_counts, thing, 12)
                self.refuse(NoSize, full_counts, 12, thing)


if __name__ == "__main__":
    unittest.main()
