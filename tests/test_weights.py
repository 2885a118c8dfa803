"""Promises 29 to 31, with 2 where it bears on them: cells that stands of stairs leave, weights, products of ones."""

import unittest

from asking import Asking
from oracles import (
    all_stands_by_hand, by_weight_by_hand, heads_by_hand, left_by_hand, stair_board_by_hand, stands_by_hand, subsets,
)
from rooklands.errors import NoNumber, NoSize, NoStairs, NoStand, TooMany
from rooklands.stands import is_stand
from rooklands.weights import by_weight, left_cells, lightest, ones_product
from samples import ALL_STAIRS, NO_STAIRS, odd_things

SIX = (0, 1, 2, 3, 4, 5)
LIGHT = [stairs for stairs in ALL_STAIRS if sum(stairs) <= 20]
HEAVY = [stairs for stairs in ALL_STAIRS if sum(stairs) > 20]
SOME_LIGHT = [stairs for stairs in LIGHT if len(stairs) <= 2] + LIGHT[::19] + [
    (0,) * 6, (1,) * 6, SIX, (4,) * 5, (5,) * 4, (2, 3, 4, 5, 6), (2, 3, 3, 4, 4, 4), (0, 0, 0, 0, 0, 6),
    (6,), (6, 6, 6),
]
# Of the stairs (1, 2, 2), the board ###/.##
NO_STANDS = [
    ((1, 0),), ((2, 1),), ((0, 3),), ((-1, 0),), ((0, -1),), ((0, 0), (0, 1)), ((0, 1), (1, 1)), ((1, 1), (0, 0)),
    ((0, 0), (0, 0)), ((0, 0), (1, 1), (2, 2)), (0, 0), ((0, 0, 0),), ((0,),), ((),), (((0, 0),),), ((False, 0),),
    ((0, False),), ((True, 1),), ((1, True),), ((0, None),), (("0", "0"),), ("00",), ([0, 0],), ({0: 0},), [(0, 0)],
    [(0, 0), (1, 1)], [], {}, {(0, 0): 1}, "", "00", None, 0, 1, True, False, 10 ** 39, ((10 ** 39, 0),),
    ((0, 0), None),
]
NO_NUMBERS = [
    -1, -2, 9, 10, 100, 10 ** 39, -(10 ** 39), True, False, None, "", "0", "1", [], [0], (), (0,), {}, {0: 0},
]


def refused_stairs():
    """What are no stairs, new ones with each call."""
    odd = [thing for thing in odd_things() if repr(thing) not in ("(0,)", "(0, 0)", "(1, 1)", "(1, 1, 1)")]
    return NO_STAIRS + odd


def no_sizes(columns):
    """What is no number from 0 to so many columns, new ones with each call."""
    odd = [thing for thing in odd_things() if not (type(thing) is int and 0 <= thing <= columns)]
    return [-1, -columns, columns + 1, columns + 2, 10 ** 39, -(10 ** 39), True, False, None, "0", [0], (0,)] + odd


class LeftCellsTest(Asking):
    def test_known_stands(self):
        for stairs, stand, wanted in (
            ((0,), (), ()), ((1,), (), ((0, 0),)), ((1,), ((0, 0),), ()), ((0, 0), (), ()),
            ((2, 2), (), ((0, 0), (0, 1), (1, 0), (1, 1))), ((2, 2), ((0, 0),), ((1, 0), (1, 1))),
            ((2, 2), ((0, 1),), ((0, 0), (1, 0), (1, 1))), ((2, 2), ((1, 0),), ((0, 1),)),
            ((2, 2), ((1, 1),), ((0, 0), (1, 0))), ((2, 2), ((0, 0), (1, 1)), ((1, 0),)),
            ((2, 2), ((0, 1), (1, 0)), ()), ((1, 2, 2), ((1, 1),), ((0, 0), (0, 2))),
            ((1, 2, 2), ((0, 0),), ((1, 1), (1, 2))), ((6,), ((2, 0),), ((3, 0), (4, 0), (5, 0))),
            ((1,) * 6, ((0, 2),), ((0, 0), (0, 1))), (SIX, (), stair_board_by_hand(SIX)[2]),
            ((6,) * 6, tuple((at, at) for at in SIX), tuple((row, column) for row in SIX for column in range(row))),
            ((6,) * 6, tuple((at, 5 - at) for at in SIX), ()),
        ):
            self.tell(wanted, left_cells, stairs, stand)

    def test_each_stand(self):
        for stairs in SOME_LIGHT:
            for stand in all_stands_by_hand(stair_board_by_hand(stairs)):
                self.assertEqual(repr(left_cells(stairs, stand)), repr(left_by_hand(stairs, stand)))

    def test_stairs_of_many_cells(self):
        for stairs in HEAVY[::29] + [(6,) * 6]:
            board = stair_board_by_hand(stairs)
            for size in (0, 1, 2, 4, min(board[:2])):
                for stand in stands_by_hand(board, size)[::67]:
                    self.tell(left_by_hand(stairs, stand), left_cells, stairs, stand)

    def test_no_stand(self):
        for stand in NO_STANDS:
            self.refuse(NoStand, left_cells, (1, 2, 2), stand)
        for thing in odd_things():
            if thing != ():
                self.refuse(NoStand, left_cells, (0, 0, 0), thing)
                self.refuse(NoStand, left_cells, (6,) * 6, thing)
                if thing != (1, 0):
                    self.refuse(NoStand, left_cells, (6,) * 6, ((0, 1), thing))
        for cells in subsets(stair_board_by_hand((1, 2, 2))[2]):
            if not is_stand(stair_board_by_hand((1, 2, 2)), cells):
                self.refuse(NoStand, left_cells, (1, 2, 2), cells)

    def test_no_stairs_goes_ahead_of_no_stand(self):
        for thing in refused_stairs():
            self.refuse(NoStairs, left_cells, thing, ())
            self.refuse(NoStairs, left_cells, thing, ((0, 0),))
            for stand in NO_STANDS:
                self.refuse(NoStairs, left_cells, thing, stand)
            self.refuse(NoStairs, left_cells, thing, thing)


class ByWeightTest(Asking):
    def test_known_stairs(self):
        for stairs, size, wanted in (
            ((0,), 0, [1]), ((0,), 1, [0]), ((1,), 0, [0, 1]), ((1,), 1, [1, 0]), ((0, 0), 2, [0]),
            ((2, 2), 0, [0, 0, 0, 0, 1]), ((2, 2), 1, [0, 1, 2, 1, 0]), ((2, 2), 2, [1, 1, 0, 0, 0]),
            ((1, 3), 1, [0, 1, 2, 1, 0]), ((1, 3), 2, [1, 1, 0, 0, 0]), ((6,), 1, [1, 1, 1, 1, 1, 1, 0]),
            ((1, 1), 2, [0, 0, 0]), ((1,) * 6, 1, [1, 1, 1, 1, 1, 1, 0]), ((1,) * 6, 6, [0] * 7),
            ((0, 1, 2), 1, [0, 2, 1, 0]), ((0, 1, 2), 2, [1, 0, 0, 0]), ((0, 1, 2), 3, [0, 0, 0, 0]),
            (SIX, 0, [0] * 15 + [1]), (SIX, 5, [1] + [0] * 15), (SIX, 6, [0] * 16), ((0,) * 6, 0, [1]),
            ((2, 3, 4, 5, 6), 3, [0] * 5 + [10, 30, 50, 60, 55, 40, 24, 11, 4, 1] + [0] * 6),
        ):
            self.tell_soon(wanted, by_weight, stairs, size)
            self.tell(wanted, by_weight, stairs, size)

    def test_against_all_stands(self):
        for stairs in SOME_LIGHT:
            for size in range(len(stairs) + 1):
                self.tell(by_weight_by_hand(stairs, size), by_weight, stairs, size)

    def test_no_size(self):
        for stairs in ((0,), (1,), (2, 2), SIX, (0,) * 6, (4,) * 5, (6, 6)):
            for thing in no_sizes(len(stairs)):
                self.refuse(NoSize, by_weight, stairs, thing)
                self.refuse(NoSize, lightest, stairs, thing)

    def test_too_many(self):
        for stairs in HEAVY:
            self.assertRaises(TooMany, by_weight, stairs, 0)
            self.assertRaises(TooMany, lightest, stairs, 0)
            self.assertRaises(TooMany, ones_product, stairs, 0)
        for stairs in ((6, 6, 6, 6), (5, 5, 5, 6), (4, 4, 4, 4, 5), (1, 2, 3, 4, 5, 6), (6,) * 6, (3, 3, 3, 4, 4, 4)):
            self.assertGreaterEqual(sum(stairs), 21)
            for size in range(len(stairs) + 1):
                self.refuse(TooMany, by_weight, stairs, size)
                self.refuse(TooMany, lightest, stairs, size)

    def test_which_refusal_goes_first(self):
        for stairs in ((5, 5, 5, 6), (6,) * 6):
            for thing in no_sizes(len(stairs)):
                self.refuse(TooMany, by_weight, stairs, thing)
                self.refuse(TooMany, lightest, stairs, thing)
        for stairs in refused_stairs() + [(6, 6, 6, 5), (10 ** 39, 10 ** 39)]:
            for size in (0, 1, 6, -1, 7, None, True, "0", []):
                self.refuse(NoStairs, by_weight, stairs, size)
                self.refuse(NoStairs, lightest, stairs, size)


class LightestTest(Asking):
    def by_hand(self, stairs, size):
        stands = stands_by_hand(stair_board_by_hand(stairs), size)
        return min(stands, key=lambda stand: (len(left_by_hand(stairs, stand)), stand)) if stands else None

    def test_known_stairs(self):
        for stairs, size, wanted in (
            ((0,), 0, ()), ((0,), 1, None), ((1,), 0, ()), ((1,), 1, ((0, 0),)), ((0, 0), 1, None),
            ((2, 2), 0, ()), ((2, 2), 1, ((1, 0),)), ((2, 2), 2, ((0, 1), (1, 0))), ((1, 1), 2, None),
            ((1, 3), 1, ((2, 1),)), ((1, 3), 2, ((0, 0), (2, 1))), ((6,), 1, ((5, 0),)), ((1,) * 6, 1, ((0, 0),)),
            (SIX, 5, tuple((at, at + 1) for at in range(5))), (SIX, 6, None), ((0,) * 6, 6, None), ((0,) * 6, 0, ()),
            ((2, 3, 4, 5, 6), 3, ((1, 0), (2, 1), (3, 2))),
        ):
            self.tell_soon(wanted, lightest, stairs, size)
            self.tell(wanted, lightest, stairs, size)

    def test_against_all_stands(self):
        several = 0
        for stairs in SOME_LIGHT:
            for size in range(len(stairs) + 1):
                wanted = self.by_hand(stairs, size)
                self.tell(wanted, lightest, stairs, size)
                if wanted is not None:
                    told = by_weight_by_hand(stairs, size)
                    several += told[len(left_by_hand(stairs, wanted))] > 1
        self.assertGreater(several, 50)


class OnesProductTest(Asking):
    def by_hand(self, stairs, number):
        """By lengths of steps: how often each sum of a number from each list of ones' places comes."""
        lengths = [number + head for head in heads_by_hand(stairs)]
        sums = {0: 1}
        for length in lengths:
            more = {}
            for total, many in sums.items():
                for place in range(max(length, 0)):
                    more[total + place] = more.get(total + place, 0) + many
            sums = more
        return [sums[total] for total in sorted(sums)]

    def test_known_stairs(self):
        for stairs, number, wanted in (
            ((0,), 0, []), ((0,), 1, [1]), ((0,), 8, [1] * 8), ((1,), 0, [1]), ((6,), 8, [1] * 14), ((2, 2), 0, [1, 1]),
            ((2, 2), 1, [1, 2, 2, 1]), ((1, 3), 1, [1, 2, 2, 1]), ((0, 0), 1, []), ((0, 0), 2, [1, 1]), ((0, 0), 0, []),
            ((0, 0, 0), 1, []), ((0, 0, 0), 0, []), ((0,) * 6, 5, []), ((0,) * 6, 0, []), (SIX, 0, []), (SIX, 1, [1]),
            (SIX, 2, [1, 6, 15, 20, 15, 6, 1]), ((2, 3), 0, [1, 2, 1]), ((0, 0, 6), 2, [1, 2, 2, 2, 2, 2, 1]),
        ):
            self.tell(wanted, ones_product, stairs, number)

    def test_light_stairs(self):
        for stairs in LIGHT[::3] + SOME_LIGHT:
            for number in range(9):
                self.tell(self.by_hand(stairs, number), ones_product, stairs, number)

    def test_no_number(self):
        for stairs in ((0,), (6,), SIX, (0,) * 6, (4,) * 5):
            for number in NO_NUMBERS:
                self.refuse(NoNumber, ones_product, stairs, number)
            for thing in odd_things():
                if not (type(thing) is int and 0 <= thing <= 8):
                    self.refuse(NoNumber, ones_product, stairs, thing)

    def test_which_refusal_goes_first(self):
        for stairs in ((5, 5, 5, 6), (6,) * 6, (1, 2, 3, 4, 5, 6)):
            for number in NO_NUMBERS + [0, 1, 8]:
                self.refuse(TooMany, ones_product, stairs, number)
        for stairs in refused_stairs() + [(6, 6, 6, 5)]:
            for number in NO_NUMBERS + [0, 8]:
                self.refuse(NoStairs, ones_product, stairs, number)


if __name__ == "__main__":
    unittest.main()
