"""Promises 26 to 28, with 2 where it bears on them: partings of things into lots, as stands of the steps."""

import unittest
from itertools import permutations, product

from asking import Asking
from oracles import all_stands_by_hand, partings_by_hand, subsets
from rooklands.boards import is_board
from rooklands.errors import NoNumber, NoParting, NoSize, NoStand
from rooklands.partings import is_parting, parting_of, partings, stand_of, steps
from rooklands.stands import is_stand
from rooklands.texts import read
from samples import odd_things

SIX = (0, 1, 2, 3, 4, 5)
ALL_PARTINGS = {n: partings_by_hand(n) for n in range(1, 7)}
STEPS = {
    n: (n, n, tuple((row, column) for row in range(n) for column in range(n) if column < row)) for n in range(1, 7)
}
NO_N = [
    0, -1, 7, 8, 12, 10 ** 39, -(10 ** 39), True, False, None, "", "1", "3", [], [3], (), (3,), {}, {3: 3},
]

NO_PARTINGS_OF_THREE = [
    (), ((),), ((), ()), ((0,),), ((0,), (1,)), ((0, 1),), ((0, 1), (3,)), ((0, 1, 2), ()), ((), (0, 1, 2)),
    ((0,), (), (1, 2)), ((0,), (1,), (2,), ()), ((0,), (1,), (2,), (3,)), ((0, 1, 2, 3),), ((0, 1), (1, 2)),
    ((0,), (0, 1, 2)), ((0, 1, 2), (0,)), ((0,), (0,), (1,), (2,)), ((0, 0, 1, 2),), ((0, 1), (2, 2)),
    ((1,), (0,), (2,)), ((0,), (2,), (1,)), ((1, 2), (0,)), ((2,), (0, 1)), ((1,), (0, 2)), ((1, 0), (2,)),
    ((0, 2, 1),), ((2, 1, 0),), ((0,), (2, 1)), ((-1, 0, 1),), ((-1,), (0, 1, 2)), ((1, 2, 3),), ((1,), (2,), (3,)),
    ((0, 1, 10 ** 39),), ((-(10 ** 39),), (0, 1, 2)), ((False, 1, 2),), ((0, True, 2),), ((False, True, 2),),
    ((0,), (True,), (2,)), ((False,), (1,), (2,)), ((0,), (True, 2)), ((0, None, 2),), ((0, 1, None),),
    ((None,), (0, 1, 2)), ((0, 1, "2"),),
    (("0",), ("1",), ("2",)), ("012",), ("0", "1", "2"), ("01", "2"), ("", (0, 1, 2)), ((0,), (1,), "2"),
    ((0, 1, (2,)),), ((0,), ((1,),), (2,)), (((0,), (1,), (2,)),), ((0, 1, [2]),), ((0,), [1], (2,)),
    ([0, 1, 2],), ([0], [1], [2]),
    ([0], (1,), (2,)), ([], (0, 1, 2)), ((0, 1, 2), []), ((0, 1, 2), {}), ((0, 1, 2), None), ((0, 1, 2), 0),
    ((0, 1), 2), (0, (1,), (2,)), (0, 1, 2), (0,), (None,), ({},), ({0: 0}, (1,), (2,)), ({0: 0, 1: 1, 2: 2},),
    [(0, 1, 2)], [(0,), (1,), (2,)], [[0], [1], [2]], [[0, 1, 2]], [], {}, {(0, 1, 2): 0}, {0: (0, 1, 2)},
    {(0,): 1, (1,): 2, (2,): 3}, "", "012", "0/1/2", None, 0, 1, 3, 10 ** 39, True, False,
]

NO_STANDS_OF_THREE = [
    ((0, 0),), ((0, 1),), ((1, 1),), ((1, 2),), ((2, 2),), ((0, 2),), ((3, 0),), ((3, 2),), ((-1, 0),), ((1, -1),),
    ((2, 0), (1, 0)), ((2, 1), (1, 0)), ((1, 0), (2, 0)), ((2, 0), (2, 1)), ((1, 0), (1, 0)), ((1, 0), (2, 1), (3, 2)),
    ((1, 0), (2, 2)), (1, 0), ((1, 0, 0),), ((1,),), ((),), (((1, 0),),), ((True, 0),), ((1, False),), ((2, True),),
    ((2, False),), ((1, None),), ((None, 0),), (("1", "0"),), ("10",), ([1, 0],), ({1: 0},), [(1, 0)], [(1, 0), (2, 1)],
    [[1, 0]], [], {}, {1: 0}, {(1, 0): True}, "", "10", None, 0, 1, True, False, 10 ** 39, ((10 ** 39, 0),),
    ((1, 0), None), ((1, 0), 2), (None,), (0,), ((1, 0), ()), ((0,), (1, 2)),
]


class IsPartingTest(Asking):
    def test_all_partings(self):
        self.assertEqual([len(ALL_PARTINGS[n]) for n in range(1, 7)], [1, 2, 5, 15, 52, 203])
        for n in range(1, 7):
            for other, some in ALL_PARTINGS.items():
                for parting in some:
                    self.tell(n == other, is_parting, n, parting)

    def test_lots_in_another_order(self):
        for n in range(1, 5):
            for parting in ALL_PARTINGS[n]:
                for order in permutations(parting):
                    self.tell(order == parting, is_parting, n, order)

    def test_things_in_another_order(self):
        for order in permutations(range(4)):
            self.tell(order == (0, 1, 2, 3), is_parting, 4, (order,))
            in_two = (order[:2], order[2:])
            self.tell(in_two in ALL_PARTINGS[4], is_parting, 4, in_two)

    def test_all_tuples_of_small_lots(self):
        lots = [lot for length in range(4) for lot in product(range(-1, 4), repeat=length)]
        wanted = {1: ALL_PARTINGS[1], 2: ALL_PARTINGS[2], 3: ALL_PARTINGS[3]}
        for many in (0, 1, 2):
            for some in product(lots, repeat=many):
                for n, told in wanted.items():
                    self.assertIs(is_parting(n, some), some in told, (n, some))

    def test_no_partings(self):
        for thing in NO_PARTINGS_OF_THREE:
            self.tell(False, is_parting, 3, thing)

    def test_anything(self):
        for thing in odd_things():
            for n in range(1, 7):
                self.tell(False, is_parting, n, thing)
            self.tell(repr(thing) == "0", is_parting, 1, ((thing,),))
            self.tell(repr(thing) == "1", is_parting, 2, ((0, thing),))
            self.tell(repr(thing) == "1", is_parting, 2, ((0,), (thing,)))
            self.tell(repr(thing) == "(0,)", is_parting, 1, (thing,))
            self.tell(repr(thing) == "(0,)", is_parting, 2, (thing, (1,)))
            self.tell(False, is_parting, 1, ((0,), thing))
            self.tell(False, is_parting, 1, [(0,), thing])

    def test_no_number_goes_ahead(self):
        for n in NO_N:
            for thing in NO_PARTINGS_OF_THREE + [((0,),), ((0, 1),), (tuple(range(7)),)]:
                self.refuse(NoNumber, is_parting, n, thing)
        for thing in odd_things():
            if not (type(thing) is int and 1 <= thing <= 6):
                self.refuse(NoNumber, is_parting, thing, thing)
                self.refuse(NoNumber, is_parting, thing, ((0,),))


class StepsTest(Asking):
    def test_each_number(self):
        for n, text in ((1, "."), (2, "../#."), (3, ".../#../##."), (4, "..../#.../##../###."),
                        (5, "...../#..../##.../###../####."), (6, "....../#...../##..../###.../####../#####.")):
            self.tell(read(text), steps, n)
            self.assertEqual(STEPS[n], read(text))
            self.assertTrue(is_board(steps(n)))

    def test_no_number(self):
        for n in NO_N:
            self.refuse(NoNumber, steps, n)
        for thing in odd_things():
            if not (type(thing) is int and 1 <= thing <= 6):
                self.refuse(NoNumber, steps, thing)


class PartingOfTest(Asking):
    def by_hand(self, n, stand):
        """The things that hang together by cells, as one lot each."""
        lots = [{thing} for thing in range(n)]
        for row, column in stand:
            lots[row] |= lots[column]
            for thing in lots[row]:
                lots[thing] = lots[row]
        return tuple(sorted({tuple(sorted(lot)) for lot in lots}))

    def test_known_stands(self):
        for n, stand, parting in (
            (1, (), ((0,),)), (2, (), ((0,), (1,))), (2, ((1, 0),), ((0, 1),)), (3, (), ((0,), (1,), (2,))),
            (3, ((1, 0),), ((0, 1), (2,))), (3, ((2, 0),), ((0, 2), (1,))), (3, ((2, 1),), ((0,), (1, 2))),
            (3, ((1, 0), (2, 1)), ((0, 1, 2),)), (4, ((2, 0), (3, 1)), ((0, 2), (1, 3))),
            (4, ((2, 1), (3, 0)), ((0, 3), (1, 2))), (6, ((1, 0), (2, 1), (3, 2), (4, 3), (5, 4)), (SIX,)),
            (6, ((5, 0),), ((0, 5), (1,), (2,), (3,), (4,))), (6, (), tuple((thing,) for thing in SIX)),
            (6, ((3, 0), (4, 1), (5, 3)), ((0, 3, 5), (1, 4), (2,))), (5, ((2, 0), (4, 2)), ((0, 2, 4), (1,), (3,))),
        ):
            self.tell(parting, parting_of, n, stand)
            self.tell(stand, stand_of, n, parting)

    def test_all_stands(self):
        for n in range(1, 7):
            told = []
            for stand in all_stands_by_hand(STEPS[n]):
                self.tell(self.by_hand(n, stand), parting_of, n, stand)
                told.append(parting_of(n, stand))
                self.assertEqual(len(told[-1]), n - len(stand))
            self.assertEqual(sorted(told), ALL_PARTINGS[n])

    def test_no_stands(self):
        for stand in NO_STANDS_OF_THREE:
            self.refuse(NoStand, parting_of, 3, stand)
        for thing in odd_things():
            if thing != ():
                for n in range(1, 7):
                    self.refuse(NoStand, parting_of, n, thing)

    def test_all_lots_of_cells(self):
        board = STEPS[4]
        for cells in subsets(board[2]):
            if not is_stand(board, cells):
                self.refuse(NoStand, parting_of, 4, cells)

    def test_stands_of_greater_steps(self):
        for stand in all_stands_by_hand(STEPS[5]):
            if any(row == 4 for row, column in stand):
                self.refuse(NoStand, parting_of, 4, stand)

    def test_no_number_goes_ahead_of_no_stand(self):
        for n in NO_N:
            self.refuse(NoNumber, parting_of, n, ())
            self.refuse(NoNumber, parting_of, n, ((1, 0),))
            for stand in NO_STANDS_OF_THREE:
                self.refuse(NoNumber, parting_of, n, stand)
        for thing in odd_things():
            if not (type(thing) is int and 1 <= thing <= 6):
                self.refuse(NoNumber, parting_of, thing, thing)


class StandOfTest(Asking):
    def by_hand(self, parting):
        """All pairs of one lot, but those between which one of the lot lies."""
        pairs = [(later, ahead) for lot in parting for ahead in lot for later in lot if ahead < later]
        return tuple(sorted(
            (later, ahead) for later, ahead in pairs
            if not any((between, ahead) in pairs and (later, between) in pairs for between in SIX)
        ))

    def test_all_partings(self):
        for n in range(1, 7):
            told = []
            for parting in ALL_PARTINGS[n]:
                stand = stand_of(n, parting)
                self.tell(self.by_hand(parting), stand_of, n, parting)
                self.assertTrue(is_stand(STEPS[n], stand))
                self.tell(parting, parting_of, n, stand)
                told.append(stand)
            self.assertEqual(sorted(told), sorted(all_stands_by_hand(STEPS[n])))

    def test_no_partings(self):
        for thing in NO_PARTINGS_OF_THREE:
            self.refuse(NoParting, stand_of, 3, thing)
        for thing in odd_things():
            for n in range(1, 7):
                self.refuse(NoParting, stand_of, n, thing)
        for n in range(1, 7):
            for other, some in ALL_PARTINGS.items():
                if n != other:
                    self.refuse(NoParting, stand_of, n, some[0])
                    self.refuse(NoParting, stand_of, n, some[-1])

    def test_no_number_goes_ahead_of_no_parting(self):
        for n in NO_N:
            self.refuse(NoNumber, stand_of, n, ((0,),))
            self.refuse(NoNumber, stand_of, n, ((0, 1, 2),))
            for thing in NO_PARTINGS_OF_THREE:
                self.refuse(NoNumber, stand_of, n, thing)
        for thing in odd_things():
            if not (type(thing) is int and 1 <= thing <= 6):
                self.refuse(NoNumber, stand_of, thing, thing)


class PartingsTest(Asking):
    def test_known_numbers(self):
        self.tell([((0,),)], partings, 1, 1)
        self.tell([((0, 1),)], partings, 2, 1)
        self.tell([((0,), (1,))], partings, 2, 2)
        self.tell([((0,), (1, 2)), ((0, 1), (2,)), ((0, 2), (1,))], partings, 3, 2)
        self.tell([((0,), (1,), (2, 3)), ((0,), (1, 2), (3,)), ((0,), (1, 3), (2,)), ((0, 1), (2,), (3,)),
                   ((0, 2), (1,), (3,)), ((0, 3), (1,), (2,))], partings, 4, 3)
        self.tell([(SIX,)], partings, 6, 1)
        self.tell([tuple((thing,) for thing in SIX)], partings, 6, 6)
        self.assertEqual([len(partings(6, many)) for many in range(1, 7)], [1, 31, 90, 65, 15, 1])

    def test_all_partings(self):
        for n in range(1, 7):
            for many in range(1, n + 1):
                wanted = [parting for parting in ALL_PARTINGS[n] if len(parting) == many]
                self.tell(wanted, partings, n, many)
                self.tell_soon(wanted, partings, n, many)
                self.assertTrue(all(is_parting(n, parting) for parting in partings(n, many)))

    def test_no_size(self):
        for n in range(1, 7):
            for many in (0, -1, -n, n + 1, n + 2, 10 ** 39, -(10 ** 39), True, False, None, "", "1", [1], (1,), {1: 1}):
                self.refuse(NoSize, partings, n, many)
            for thing in odd_things():
                if not (type(thing) is int and 1 <= thing <= n):
                    self.refuse(NoSize, partings, n, thing)

    def test_no_number_goes_ahead_of_no_size(self):
        for n in NO_N:
            for many in (0, 1, 3, -1, 7, True, None, "1", [], ()):
                self.refuse(NoNumber, partings, n, many)
        for thing in odd_things():
            if not (type(thing) is int and 1 <= thing <= 6):
                self.refuse(NoNumber, partings, thing, thing)


if __name__ == "__main__":
    unittest.main()
