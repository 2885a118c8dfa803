"""Promises 24 and 25, with 2 where it bears on them: heads of stairs, their counts and products, stairs of the same."""

import unittest
from math import prod

from asking import Asking
from oracles import counts_by_hand, heads_by_hand, stair_board_by_hand, tuples_by_heads
from rooklands.errors import NoNumber, NoStairs, NotAlike
from rooklands.heads import all_stairs, head_counts, heads, product_at, risen, same_counts
from rooklands.stairs import is_stairs
from samples import ALL_STAIRS, NO_STAIRS, odd_things

SIX = (0, 1, 2, 3, 4, 5)
FEW_COLUMNS = [stairs for stairs in ALL_STAIRS if len(stairs) <= 3]
MANY_COLUMNS = [stairs for stairs in ALL_STAIRS if len(stairs) > 3]
NO_NUMBERS = [
    -1, -2, 10 ** 9 + 1, 10 ** 10, 10 ** 39, -(10 ** 9), -(10 ** 39), True, False, None, "", "0", "1",
    [], [0], (), (0,), {}, {0: 0},
]


def counts_of_columns(stairs):
    """The counts of the board of stairs, with noughts behind to as many sizes as columns."""
    told = counts_by_hand(stair_board_by_hand(stairs))
    return told + [0] * (len(stairs) + 1 - len(told))


def refused_stairs():
    """What are no stairs, new ones with each call."""
    odd = [thing for thing in odd_things() if repr(thing) not in ("(0,)", "(0, 0)", "(1, 1)", "(1, 1, 1)")]
    return NO_STAIRS + odd


class HeadsTest(Asking):
    def test_known_stairs(self):
        for stairs, wanted in (
            ((0,), [0]), ((6,), [6]), ((0, 0), [-1, 0]), ((0, 1), [0, 0]), ((2, 2), [1, 2]), ((1, 3), [1, 2]),
            ((0, 0, 6), [-1, 0, 4]), (SIX, [0] * 6), ((0,) * 6, [-5, -4, -3, -2, -1, 0]),
            ((6,) * 6, [1, 2, 3, 4, 5, 6]), ((1, 2, 3, 4, 5, 6), [1] * 6), ((0, 2, 2, 5), [0, 0, 1, 2]),
        ):
            self.tell(wanted, heads, stairs)

    def test_all_stairs(self):
        for stairs in ALL_STAIRS:
            self.tell(heads_by_hand(stairs), heads, stairs)

    def test_no_stairs(self):
        for thing in refused_stairs():
            self.refuse(NoStairs, heads, thing)


class HeadCountsTest(Asking):
    def test_known_stairs(self):
        for stairs, wanted in (
            ((0,), [1, 0]), ((1,), [1, 1]), ((6,), [1, 6]), ((0, 0), [1, 0, 0]), ((1, 1), [1, 2, 0]),
            ((2, 2), [1, 4, 2]), ((1, 3), [1, 4, 2]), ((0, 1, 2), [1, 3, 1, 0]), ((0,) * 6, [1, 0, 0, 0, 0, 0, 0]),
            ((1,) * 6, [1, 6, 0, 0, 0, 0, 0]), (SIX, [1, 15, 65, 90, 31, 1, 0]),
            ((6,) * 6, [1, 36, 450, 2400, 5400, 4320, 720]), ((1, 2, 3, 4, 5, 6), [1, 21, 140, 350, 301, 63, 1]),
            ((0, 0, 0, 0, 0, 6), [1, 6, 0, 0, 0, 0, 0]), ((2,) * 6, [1, 12, 30, 0, 0, 0, 0]),
        ):
            self.tell(wanted, head_counts, stairs)

    def test_against_all_stands(self):
        for stairs in FEW_COLUMNS + MANY_COLUMNS[::17] + [(6,) * 6, (0,) * 5 + (6,)]:
            self.tell(counts_of_columns(stairs), head_counts, stairs)

    def test_no_stairs(self):
        for thing in refused_stairs():
            self.refuse(NoStairs, head_counts, thing)


class ProductAtTest(Asking):
    def test_known_stairs(self):
        for stairs, number, wanted in (
            ((0,), 0, 0), ((0,), 7, 7), ((6,), 0, 6), ((6,), 10 ** 9, 10 ** 9 + 6), ((0, 0), 0, 0), ((0, 0), 1, 0),
            ((0, 0), 5, 20), ((2, 2), 0, 2), ((1, 3), 3, 20), (SIX, 3, 729), (SIX, 10 ** 9, 10 ** 54),
            ((6,) * 6, 0, 720), ((0,) * 6, 6, 720), ((0,) * 6, 4, 0), ((0, 0, 6), 0, 0), ((0, 0, 0), 1, 0),
            ((0,) * 4, 0, 0), ((1, 2, 3, 4, 5, 6), 10 ** 9, (10 ** 9 + 1) ** 6),
        ):
            self.tell(wanted, product_at, stairs, number)

    def test_all_stairs(self):
        for stairs in ALL_STAIRS:
            for number in (0, 1, 2, 5, 6, 11, 999_999_999, 10 ** 9):
                wanted = prod(number + stairs[place] - place for place in range(len(stairs)))
                self.assertEqual(repr(product_at(stairs, number)), repr(wanted))

    def test_no_number(self):
        for stairs in ((0,), (6,), SIX, (0,) * 6, (6,) * 6):
            for number in NO_NUMBERS:
                self.refuse(NoNumber, product_at, stairs, number)
            for thing in odd_things():
                if not (type(thing) is int and 0 <= thing <= 10 ** 9):
                    self.refuse(NoNumber, product_at, stairs, thing)

    def test_no_stairs_goes_ahead_of_no_number(self):
        for thing in refused_stairs():
            self.refuse(NoStairs, product_at, thing, 0)
            for number in NO_NUMBERS:
                self.refuse(NoStairs, product_at, thing, number)


class SameCountsTest(Asking):
    def test_known_stairs(self):
        for one, other, wanted in (
            ((0,), (0,), True), ((0,), (1,), False), ((2, 2), (1, 3), True), ((1, 3), (2, 2), True),
            ((0, 4), (2, 2), False), ((1, 3), (0, 4), False), (SIX, SIX, True), (SIX, (0,) * 6, False),
            ((6,) * 6, (5, 6, 6, 6, 6, 6), False), ((0, 2, 2), (0, 1, 3), True), ((1, 1, 3), (0, 2, 3), True),
            ((3, 3, 3, 3, 3, 3), (1, 3, 3, 3, 4, 4), False),
        ):
            self.tell(wanted, same_counts, one, other)
            self.tell(wanted, same_counts, other, one)

    def test_against_all_stands(self):
        for columns in (1, 2, 3):
            counted = [(stairs, counts_of_columns(stairs)) for stairs in ALL_STAIRS if len(stairs) == columns]
            for one, mine in counted:
                for other, theirs in counted:
                    self.assertIs(same_counts(one, other), mine == theirs, (one, other))

    def test_more_columns_against_all_stands(self):
        for columns in (4, 5, 6):
            some = [stairs for stairs in MANY_COLUMNS if len(stairs) == columns]
            some = [stairs for stairs in some if sum(stairs) in (9, 10)]
            counted = [(stairs, counts_of_columns(stairs)) for stairs in some]
            same = 0
            for one, mine in counted:
                for other, theirs in counted:
                    self.assertIs(same_counts(one, other), mine == theirs, (one, other))
                    same += one != other and mine == theirs
            self.assertGreater(same, 10)

    def test_not_alike(self):
        for one in ((0,), (0, 0), (1, 2, 3), SIX, (0,) * 6, (6,) * 5):
            for other in ((0,), (0, 0), (0, 0, 0), (1, 2, 3), SIX, (6,) * 6, (2,) * 5, (1, 1, 1, 1)):
                if len(one) != len(other):
                    self.refuse(NotAlike, same_counts, one, other)
                    self.refuse(NotAlike, same_counts, other, one)

    def test_no_stairs_goes_ahead_of_not_alike(self):
        for thing in refused_stairs():
            for stairs in ((0,), (0, 1), SIX):
                self.refuse(NoStairs, same_counts, thing, stairs)
                self.refuse(NoStairs, same_counts, stairs, thing)
            self.refuse(NoStairs, same_counts, thing, thing)
            self.refuse(NoStairs, same_counts, thing, (1, 0))


class AllStairsTest(Asking):
    def test_known_stairs(self):
        for stairs, wanted in (
            ((0,), [(0,)]), ((6,), [(6,)]), ((0, 0), [(0, 0)]), ((2, 2), [(1, 3), (2, 2)]), ((1, 3), [(1, 3), (2, 2)]),
            ((0, 4), [(0, 4)]), (SIX, [SIX]), ((0,) * 6, [(0,) * 6]), ((6, 6), [(5, 7), (6, 6)]),
            ((0, 2, 2), [(0, 1, 3), (0, 2, 2), (1, 1, 2)]), ((1, 1, 3), [(0, 2, 3), (1, 1, 3), (1, 2, 2)]),
            ((6, 6, 6), [(4, 6, 8), (4, 7, 7), (5, 5, 8), (6, 6, 6)]),
        ):
            self.tell(wanted, all_stairs, stairs)

    def test_against_all_tuples(self):
        for columns in range(1, 7):
            by_heads = tuples_by_heads(columns)
            for stairs in ALL_STAIRS:
                if len(stairs) == columns:
                    wanted = by_heads[tuple(heads_by_hand(stairs))]
                    self.assertEqual(repr(all_stairs(stairs)), repr(wanted))
                    self.assertIn(stairs, wanted)

    def test_some_asked_twice(self):
        for stairs in ALL_STAIRS[::71]:
            self.tell(all_stairs(stairs), all_stairs, stairs)

    def test_numbers_above_six(self):
        told = all_stairs((6,) * 6)
        self.assertIn((1, 3, 5, 7, 9, 11), told)
        self.assertFalse(is_stairs((1, 3, 5, 7, 9, 11)))
        self.refuse(NoStairs, all_stairs, (1, 3, 5, 7, 9, 11))
        self.refuse(NoStairs, risen, (1, 3, 5, 7, 9, 11))

    def test_no_stairs(self):
        for thing in refused_stairs():
            self.refuse(NoStairs, all_stairs, thing)


class RisenTest(Asking):
    def test_known_stairs(self):
        for stairs, wanted in (
            ((0,), (0,)), ((6,), (6,)), ((0, 0), (0, 0)), ((2, 2), (1, 3)), ((1, 3), (1, 3)), ((0, 2, 2), (0, 1, 3)),
            ((1, 1, 3), (0, 2, 3)), (SIX, SIX), ((0,) * 6, (0,) * 6), ((6,) * 6, (1, 3, 5, 7, 9, 11)),
            ((1,) * 6, (0, 0, 0, 0, 0, 6)), ((1, 1, 2), (0, 1, 3)), ((2, 2, 2), (0, 2, 4)), ((1, 1), (0, 2)),
        ):
            self.tell(wanted, risen, stairs)

    def test_against_all_tuples(self):
        for columns in range(1, 7):
            by_heads = tuples_by_heads(columns)
            for stairs in ALL_STAIRS:
                if len(stairs) == columns:
                    found = [
                        numbers for numbers in by_heads[tuple(heads_by_hand(stairs))]
                        if all(numbers[at] == 0 or numbers[at] > numbers[at - 1] for at in range(1, columns))
                    ]
                    self.assertEqual(repr(found), repr([risen(stairs)]))

    def test_asked_twice(self):
        for stairs in ALL_STAIRS[::71]:
            self.tell(risen(stairs), risen, stairs)

    def test_no_stairs(self):
        for thing in refused_stairs():
            self.refuse(NoStairs, risen, thing)


if __name__ == "__main__":
    unittest.main()
