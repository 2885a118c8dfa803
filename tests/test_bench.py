"""Promises 35 and 36, with 2 where it bears on them: a bench keeps a board while it is changed."""

import unittest
from random import Random

from oracles import BenchByHand, counts_by_hand, greatest_by_hand
from rooklands import errors
from rooklands.bench import Bench
from rooklands.boards import is_board
from rooklands.errors import Double, NoCell, NoDeed, NoPlace, TooMany
from rooklands.texts import read
from samples import empty, full, odd_things

NO_LINES = [
    -1, -2, 6, 7, 99, 10 ** 39, -(10 ** 39), True, False, None, "", "0", "1", [], [0], (), (0,), {}, {0: 0}, (0, 0),
]


def bench_of(text):
    """A bench that keeps a written board."""
    bench = Bench()
    rows = text.split("/")
    for _ in rows[1:]:
        bench.row()
    for _ in rows[0][1:]:
        bench.column()
    for row, signs in enumerate(rows):
        for column, sign in enumerate(signs):
            if sign == "#":
                bench.put(row, column)
    return bench


def drawn_deed(source, most_lines=7):
    """A deed with its place, drawn; also places that no board has."""
    deed = source.choice(["put"] * 8 + ["take"] * 4 + ["row", "column"] * 2 + ["turn", "rest"] + ["undo"] * 3)
    place = (source.randrange(-1, most_lines), source.randrange(-1, most_lines))
    return (deed,) + place if deed in ("put", "take") else (deed,)


class BenchTesting(unittest.TestCase):
    def keeps(self, text, bench):
        """Told twice, and what is done to the told list changes nothing."""
        board = read(text)
        for _ in range(2):
            self.assertEqual(repr(bench.board()), repr(board))
            told = bench.counts()
            self.assertEqual(repr(told), repr(counts_by_hand(board)))
            told.append(5)
            told[0] = "spoiled"
            self.assertEqual(repr(bench.most()), repr(len(greatest_by_hand(board)[0])))

    def refuse(self, error, bench, deed, *given):
        """Refused with just this class, twice, and the bench is as it was: also what can be undone."""
        before = repr(bench.board())
        for _ in range(2):
            with self.assertRaises(error, msg=(deed, given)) as caught:
                getattr(bench, deed)(*given)
            self.assertIs(type(caught.exception), error)
            self.assertEqual(repr(bench.board()), before)


class DeedsTest(BenchTesting):
    def test_at_first(self):
        self.keeps(".", Bench())
        self.assertEqual(repr(Bench().board()), "(1, 1, ())")
        self.assertEqual(Bench().counts(), [1, 0])
        self.assertEqual(repr(Bench().most()), "0")

    def test_deeds_give_back_nothing(self):
        bench = Bench()
        for deed in ("row", "column", "turn", "rest", "undo"):
            self.assertIsNone(getattr(bench, deed)())
        self.assertIsNone(bench.put(0, 1))
        self.assertIsNone(bench.take(0, 1))

    def test_a_way_through_all_deeds(self):
        bench = Bench()
        for deed, given, text in (
            ("put", (0, 0), "#"), ("row", (), "#/."), ("column", (), "#./.."), ("put", (1, 1), "#./.#"),
            ("column", (), "#../.#."), ("put", (0, 2), "#.#/.#."), ("turn", (), "#./.#/#."), ("rest", (), ".#/#./.#"),
            ("take", (1, 0), ".#/../.#"), ("put", (1, 0), ".#/#./.#"), ("undo", (), ".#/../.#"),
            ("undo", (), ".#/#./.#"), ("undo", (), "#./.#/#."), ("undo", (), "#.#/.#."),
            ("row", (), "#.#/.#./..."), ("undo", (), "#.#/.#."), ("undo", (), "#../.#."),
            ("undo", (), "#./.#"), ("undo", (), "#./.."), ("undo", (), "#/."),
            ("undo", (), "#"), ("undo", (), "."),
        ):
            getattr(bench, deed)(*given)
            self.keeps(text, bench)
        self.refuse(NoDeed, bench, "undo")

    def test_cells_are_kept_rising(self):
        bench = bench_of("../..")
        for row, column in ((1, 1), (0, 1), (1, 0), (0, 0)):
            bench.put(row, column)
            self.assertTrue(is_board(bench.board()))
        self.keeps("##/##", bench)
        bench.take(0, 1)
        bench.put(0, 1)
        self.keeps("##/##", bench)

    def test_edges(self):
        bench = bench_of("......" + "/......" * 5)
        self.keeps("/".join(["......"] * 6), bench)
        bench.rest()
        self.assertEqual(repr(bench.board()), repr(full(6, 6)))
        self.assertEqual(bench.counts(), [1, 36, 450, 2400, 5400, 4320, 720])
        self.assertEqual(bench.most(), 6)
        bench.take(5, 5)
        self.refuse(NoCell, bench, "take", 5, 5)
        bench.put(5, 5)
        self.refuse(Double, bench, "put", 5, 5)
        bench.rest()
        self.assertEqual(repr(bench.board()), repr(empty(6, 6)))

    def test_a_deed_that_changes_nothing_is_a_deed(self):
        bench = Bench()
        bench.turn()
        bench.turn()
        bench.undo()
        self.keeps(".", bench)
        bench.undo()
        self.refuse(NoDeed, bench, "undo")

    def test_what_is_told_is_not_changed_later(self):
        bench = Bench()
        board, told = bench.board(), bench.counts()
        bench.put(0, 0)
        bench.row()
        self.assertEqual((board, told), ((1, 1, ()), [1, 0]))


class RefusalsTest(BenchTesting):
    def test_no_place(self):
        for text in (".", "#", "#.#/..#", "......", "./././././."):
            bench = bench_of(text)
            high, wide = bench.board()[:2]
            for deed in ("put", "take"):
                for line in NO_LINES + [high, wide]:
                    if not (type(line) is int and 0 <= line < high):
                        self.refuse(NoPlace, bench, deed, line, 0)
                        self.refuse(NoPlace, bench, deed, line, wide - 1)
                    if not (type(line) is int and 0 <= line < wide):
                        self.refuse(NoPlace, bench, deed, 0, line)
                        self.refuse(NoPlace, bench, deed, high - 1, line)
                    self.refuse(NoPlace, bench, deed, -1, line)
                    self.refuse(NoPlace, bench, deed, line, None)
            self.keeps(text, bench)

    def test_no_place_of_anything(self):
        bench = bench_of("##/##")
        for thing in odd_things():
            for deed in ("put", "take"):
                if not (type(thing) is int and 0 <= thing <= 1):
                    self.refuse(NoPlace, bench, deed, thing, 0)
                    self.refuse(NoPlace, bench, deed, 0, thing)
                    self.refuse(NoPlace, bench, deed, thing, thing)
        self.keeps("##/##", bench)

    def test_double_and_no_cell(self):
        bench = bench_of("#.#/..#")
        for row in (0, 1):
            for column in (0, 1, 2):
                if (row, column) in ((0, 0), (0, 2), (1, 2)):
                    self.refuse(Double, bench, "put", row, column)
                else:
                    self.refuse(NoCell, bench, "take", row, column)
        self.keeps("#.#/..#", bench)

    def test_no_place_goes_ahead(self):
        # (True, 2) and (0, False) would be found among the cells.
        bench = bench_of("#.#/..#")
        for place in ((True, 2), (0, False), (False, 0), (False, True), (True, True)):
            self.refuse(NoPlace, bench, "put", *place)
            self.refuse(NoPlace, bench, "take", *place)

    def test_too_many(self):
        bench = bench_of("./././././.")
        self.refuse(TooMany, bench, "row")
        bench.column()
        self.refuse(TooMany, bench, "row")
        bench.turn()
        self.refuse(TooMany, bench, "column")
        bench.row()
        self.keeps("....../....../......", bench)
        bench.undo()
        bench.undo()
        bench.undo()
        self.keeps("./././././.", bench)
        self.refuse(TooMany, bench, "row")
        bench.undo()
        bench.row()
        self.refuse(TooMany, bench, "row")

    def test_refused_deeds_are_not_undone(self):
        bench = bench_of("#.")
        self.refuse(Double, bench, "put", 0, 0)
        self.refuse(NoCell, bench, "take", 0, 1)
        self.refuse(NoPlace, bench, "put", 1, 0)
        self.refuse(NoPlace, bench, "take", 0, 2)
        bench.undo()
        self.keeps("..", bench)
        bench.undo()
        self.keeps(".", bench)
        self.refuse(NoDeed, bench, "undo")
        bench.put(0, 0)
        self.keeps("#", bench)

    def test_no_deed(self):
        bench = Bench()
        self.refuse(NoDeed, bench, "undo")
        bench.put(0, 0)
        bench.undo()
        self.refuse(NoDeed, bench, "undo")
        self.keeps(".", bench)

    def test_asking_is_no_deed(self):
        bench = Bench()
        self.keeps(".", bench)
        self.refuse(NoDeed, bench, "undo")


class LongRunsTest(BenchTesting):
    def do_both(self, bench, by_hand, deed, *place):
        refusal = by_hand.do(deed, *place)
        if refusal is None:
            getattr(bench, deed)(*place)
        else:
            self.refuse(getattr(errors, refusal), bench, deed, *place)
        self.assertEqual(repr(bench.board()), repr(by_hand.board()))

    def test_two_benches_side_by_side(self):
        source = Random(35)
        for run in range(12):
            pairs = [(Bench(), BenchByHand()), (Bench(), BenchByHand())]
            for step in range(400):
                bench, by_hand = pairs[source.randrange(2)]
                self.do_both(bench, by_hand, *drawn_deed(source, 3 + run % 5))
                if step % 100 == 0:
                    for bench, by_hand in pairs:
                        self.keeps(by_hand.text(), bench)
            for bench, by_hand in pairs:
                self.assertEqual(repr(bench.board()), repr(by_hand.board()))
                while by_hand.behind:
                    self.do_both(bench, by_hand, "undo")
                self.refuse(NoDeed, bench, "undo")
                self.keeps(".", bench)

    def test_many_deeds_and_all_of_them_undone(self):
        bench, source, boards = Bench(), Random(36), []
        for _ in range(5):
            bench.row()
            bench.column()
        for _ in range(5000):
            boards.append(bench.board())
            row, column = source.randrange(6), source.randrange(6)
            if source.randrange(50) == 0:
                deed = source.choice((bench.rest, bench.turn))
                deed()
            elif (row, column) in boards[-1][2]:
                bench.take(row, column)
            else:
                bench.put(row, column)
        while boards:
            bench.undo()
            self.assertEqual(bench.board(), boards.pop())
        for _ in range(10):
            bench.undo()
        self.refuse(NoDeed, bench, "undo")


if __name__ == "__main__":
    unittest.main()
