"""Promise 4, with 2 where it bears on it: what a board is."""

import copy
import unittest

from rooklands.boards import is_board
from samples import EDGES, LARGE, UNEVEN, all_boards, full, odd_things, small_boards


def replaced(thing, at, part):
    return thing[:at] + (part,) + thing[at + 1:]


class IsBoardTest(unittest.TestCase):
    def check(self, thing, wanted):
        before = copy.deepcopy(thing)
        self.assertIs(is_board(thing), wanted, repr(thing)[:200])
        self.assertIs(is_board(thing), wanted, "asked again")
        self.assertEqual(repr(thing), repr(before), "changed")

    def test_small_boards_and_edges_are_boards(self):
        for board in small_boards() + EDGES:
            self.check(board, True)

    def test_each_size_from_one_to_six(self):
        for high in range(-1, 9):
            for wide in range(-1, 9):
                self.check((high, wide, ()), 1 <= high <= 6 and 1 <= wide <= 6)
        for high in range(1, 7):
            for wide in range(1, 7):
                self.check(full(high, wide), True)

    def test_one_row_or_column_too_many(self):
        for thing in (full(7, 1), full(1, 7), full(7, 7), (0, 0, ()), (10 ** 39, 1, ()), (1, 10 ** 39, ())):
            self.check(thing, False)

    def test_odd_things_are_none(self):
        for thing in odd_things():
            self.check(thing, False)

    def test_odd_parts_make_none(self):
        for part in odd_things():
            shown = repr(part)
            self.check((part, 6, ()), shown in ("1", "2", "6"))
            self.check((6, part, ()), shown in ("1", "2", "6"))
            self.check((2, 2, part), shown == "()")
            self.check((2, 2, (part,)), shown in ("(0, 0)", "(1, 0)", "(1, 1)"))
            self.check((2, 2, ((0, 0), part)), shown in ("(1, 0)", "(1, 1)"))
            self.check((2, 2, (part, (1, 1))), shown in ("(0, 0)", "(1, 0)"))
            self.check((3, 3, ((part, 1),)), shown in ("0", "1", "2"))
            self.check((3, 3, ((1, part),)), shown in ("0", "1", "2"))

    def test_truths_are_no_numbers(self):
        for thing in (
            (True, 1, ()), (1, True, ()), (True, True, ()), (False, 1, ()),
            (2, 2, ((True, 0),)), (2, 2, ((0, True),)), (2, 2, ((False, 0),)), (2, 2, ((0, False),)),
            (2, 2, ((0, 0), (True, True))), (1, 1, True), (1, 1, False), (1, 1, (True,)),
        ):
            self.check(thing, False)

    def test_lists_are_no_tuples(self):
        self.check([2, 3, ((0, 0),)], False)
        self.check([2, 3, ()], False)
        self.check((2, 3, []), False)
        self.check((2, 3, [(0, 0)]), False)
        self.check((2, 3, ([0, 0],)), False)
        self.check((2, 3, ((0, 0), [1, 1])), False)
        self.check((2, 3, {(0, 0): True}), False)

    def test_cells_that_do_not_rise(self):
        for cells in (
            ((1, 0), (0, 0)), ((0, 1), (0, 0)), ((0, 0), (0, 2), (0, 1)), ((0, 0), (1, 2), (1, 1)),
            ((1, 0), (0, 2)), ((0, 0), (0, 1), (1, 2), (1, 0)),
        ):
            self.check((2, 3, cells), False)
            self.check((2, 3, tuple(sorted(cells))), True)

    def test_cells_that_come_twice(self):
        self.check((2, 3, ((0, 0), (0, 0))), False)
        self.check((2, 3, ((0, 0), (1, 1), (1, 1))), False)
        self.check((2, 3, ((0, 0), (0, 0), (1, 1))), False)

    def test_cells_below_nought_or_beyond(self):
        for high, wide in ((2, 3), (3, 2), (1, 6), (6, 1), (6, 6)):
            for row in range(-2, 9):
                for column in range(-2, 9):
                    self.check((high, wide, ((row, column),)), 0 <= row < high and 0 <= column < wide)
        self.check((2, 2, ((0, 10 ** 39),)), False)
        self.check((2, 2, ((-(10 ** 39), 0),)), False)
        self.check((2, 2, ((0, 0), (1, 2))), False)
        self.check((2, 2, ((-1, 0), (1, 1))), False)

    def test_parts_too_many_or_too_few(self):
        for thing in (
            (), (2,), (2, 3), (2, 3, (), ()), (2, 3, ((0, 0),), None), (2, 3, (0, 0)), (2, 3, ((),)),
            (2, 3, ((0,),)), (2, 3, ((0, 0, 0),)), (2, 3, ((0, 0), (1,))), (2, 3, ((0, 0), (1, 1, 1))),
            ((2, 3, ()),), (2, 3, (((0, 0),),)),
        ):
            self.check(thing, False)

    def test_each_small_thing_against_a_list_of_the_boards(self):
        # Texts of things tell a truth from a number and a list from a tuple, as == does not.
        boards = {repr(board) for high in (1, 2) for wide in (1, 2) for board in all_boards(high, wide)}
        numbers = [0, 1, 2, True, False, None, "1"]
        cells = [(), [], ((0, 0),), ((0, 1),), ((1, 0), (1, 1)), ((0, 0), (0, 0)), ((1, 1), (0, 0)), ((False, 0),)]
        for high in numbers:
            for wide in numbers:
                for part in cells:
                    thing = (high, wide, part)
                    self.check(thing, repr(thing) in boards)

    def test_one_part_of_a_large_board_is_off(self):
        for at in range(len(LARGE[2])):
            row, column = LARGE[2][at]
            for part in ([row, column], (row, column, 0), (row,), None, (row, None), (row, 6), (-1, column), "00"):
                self.check(replaced(LARGE, 2, replaced(LARGE[2], at, part)), False)
        self.check(UNEVEN, True)


if __name__ == "__main__":
    unittest.main()
