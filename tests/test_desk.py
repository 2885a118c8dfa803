"""Promise 37, with 2 where it bears on it: a desk has a bench and is told rows."""

import unittest
from random import Random

from oracles import BenchByHand, all_alike, counts_by_hand, greatest_by_hand
from rooklands import errors
from rooklands.desk import Desk
from rooklands.errors import Double, NoCell, NoDeed, NoPlace, NoRow, TooMany
from samples import DRAWN, EDGES, odd_things, small_boards

DEEDS = ("row", "column", "turn", "rest", "undo")
TOLD = ("board", "counts", "most", "stand", "pieces")
WORDS = DEEDS + TOLD

NO_ROWS = [
    "", " ", "  ", "\n", "\t", "ok", "none", "puts 0 0", "Put 0 0", "PUT 0 0", "pu 0 0", "put", "take", "put ", "take ",
    "put 0", "take 0", "put 0 ", "put 0 0 ", " put 0 0", "put  0 0", "put 0  0", "put 0 0  ", "put 0 0 0", "take 0 0 0",
    "put 0,0", "put 0 0\n", "\nput 0 0", "put\t0 0", "put 0\t0", "put 0\n0", "put(0, 0)", "put 0-0", "put00", "put 00",
    "put00 0", "put 0 00", "put 00 0", "put 01 0", "put 0 01", "put 000 0", "put 0 000", "put 09 0", "put 100 0",
    "put 0 100", "put 010 0", "put 999 0", "put 0 1000", "put +0 0", "put 0 +0", "put -0 0", "put 0 -0", "put -1 0",
    "put 0 -1", "put 0 +1", "put 1_0 0", "put 0 1_0", "put 0.0 0", "put 0x0 0", "put a 0", "put 0 a", "put 0 b1",
    "put 1a 0", "put R C", "put r c", "put one two", "put 0 none", "put None None", "put True 0", "put 0 False",
    "put \u0660 0", "put 0 \u0661", "put \u00b2 0", "put \uff10 0", "put 0 \u2460", "put 0\u00a00", "put\u00a00 0",
    "put 0 0\u00a0", "put \u30000 0", "take 00 0", "take 0 01", "take -1 0", "take 0 a", "take", "take 0 100",
    "take +0 0",
    "put 0 0 put 0 0", "put 0 0;put 0 0", "put 0 0 undo", "row column", "row row", "row 0", "row 1", "column 0 0",
    "turn 0", "rest 0", "undo 1", "undo undo", "board 0", "board board", "counts 1", "most 0", "stand 0", "pieces 0 0",
    "rows", "columns", "Row", "ROW", "row\n", "row\t", "row ", " row", "ro w", "r", "boards",
    "count", "piece", "stands", "mosts", "undone", "do", "ALONE", "say", "say row", "keep", "0", "0 0", "1 2 3",
    "#", ".", "#.#/..#", "put # .",
    "put 0 0" * 6, "row " * 9, "__init__", "bench", "put 0\u200b 0", "r\u00f6w", "row\u0000", "row\r", "put 0 0\r",
]


def desk_of(text):
    """A desk whose bench keeps a written board."""
    desk = Desk()
    rows = text.split("/")
    for _ in rows[1:]:
        desk.say("row")
    for _ in rows[0][1:]:
        desk.say("column")
    for row, signs in enumerate(rows):
        for column, sign in enumerate(signs):
            if sign == "#":
                desk.say(f"put {row} {column}")
    return desk


def text_of(board):
    high, wide, cells = board
    return "/".join("".join("#" if (row, column) in cells else "." for column in range(wide)) for row in range(high))


def pieces_by_hand(board):
    """Rows and columns that a cell joins are one; so many lots have a cell."""
    lots = {}
    for row, column in board[2]:
        joined = lots.get(("row", row), {("row", row)}) | lots.get(("column", column), {("column", column)})
        for line in joined:
            lots[line] = joined
    return len({tuple(sorted(lot)) for lot in lots.values()})


def answers_by_hand(board):
    stand = greatest_by_hand(board)[0]
    return {
        "board": text_of(board), "counts": " ".join(str(many) for many in counts_by_hand(board)),
        "most": str(len(stand)), "stand": " ".join(f"{row}-{column}" for row, column in stand) or "none",
        "pieces": str(pieces_by_hand(board)),
    }


class DeskTesting(unittest.TestCase):
    def tell(self, wanted, desk, row):
        told = desk.say(row)
        self.assertIs(type(told), str)
        self.assertEqual(told, wanted, row)

    def tells_all_of(self, board, desk):
        for _ in range(2):
            for row, wanted in answers_by_hand(board).items():
                self.tell(wanted, desk, row)

    def refuse(self, error, desk, row):
        before = [desk.say(word) for word in TOLD]
        for _ in range(2):
            with self.assertRaises(error, msg=repr(row)) as caught:
                desk.say(row)
            self.assertIs(type(caught.exception), error)
        self.assertEqual([desk.say(word) for word in TOLD], before)


class AnswersTest(DeskTesting):
    def test_at_first(self):
        desk = Desk()
        for row, wanted in (("board", "."), ("counts", "1 0"), ("most", "0"), ("stand", "none"), ("pieces", "0")):
            self.tell(wanted, desk, row)
        self.refuse(NoDeed, desk, "undo")

    def test_a_way_through_all_rows(self):
        desk = Desk()
        for row, wanted in (
            ("put 0 0", "ok"), ("board", "#"), ("counts", "1 1"), ("most", "1"), ("stand", "0-0"), ("pieces", "1"),
            ("row", "ok"), ("column", "ok"), ("board", "#./.."), ("put 1 1", "ok"), ("counts", "1 2 1"), ("most", "2"),
            ("stand", "0-0 1-1"), ("pieces", "2"), ("column", "ok"), ("board", "#../.#."), ("put 0 2", "ok"),
            ("put 0 1", "ok"), ("board", "###/.#."), ("counts", "1 4 2"), ("stand", "0-0 1-1"), ("pieces", "1"),
            ("take 0 0", "ok"), ("board", ".##/.#."), ("stand", "0-2 1-1"), ("turn", "ok"), ("board", "../##/#."),
            ("stand", "1-1 2-0"), ("rest", "ok"), ("board", "##/../.#"), ("counts", "1 3 1"), ("stand", "0-0 2-1"),
            ("undo", "ok"), ("undo", "ok"), ("board", ".##/.#."), ("undo", "ok"), ("board", "###/.#."),
        ):
            self.tell(wanted, desk, row)

    def test_small_boards(self):
        for board in small_boards()[::3] + EDGES + DRAWN:
            self.tells_all_of(board, desk_of(text_of(board)))

    def test_the_first_greatest_stand_is_told_whatever_orders_lead(self):
        for board in sorted(all_alike((3, 3, ((0, 0), (0, 1), (1, 1), (2, 2))))):
            self.tells_all_of(board, desk_of(text_of(board)))

    def test_numbers_of_one_and_two_figures(self):
        desk = desk_of("/".join(["......"] * 6))
        for row in range(6):
            for column in range(6):
                self.tell("ok", desk, f"put {row} {column}")
        for number in range(6, 100):
            for word in ("put", "take"):
                self.refuse_place(desk, f"{word} {number} 0")
                self.refuse_place(desk, f"{word} 0 {number}")
                self.refuse_place(desk, f"{word} {number} {number}")
        self.tell("/".join(["######"] * 6), desk, "board")
        for row in range(6):
            for column in range(6):
                self.tell("ok", desk, f"take {row} {column}")
        self.tell("/".join(["......"] * 6), desk, "board")

    def refuse_place(self, desk, row):
        with self.assertRaises(NoPlace) as caught:
            desk.say(row)
        self.assertIs(type(caught.exception), NoPlace)


class RefusalsTest(DeskTesting):
    def test_no_rows(self):
        for text in (".", "#.#/..#"):
            desk = desk_of(text)
            for row in NO_ROWS:
                self.refuse(NoRow, desk, row)
            self.tell(text, desk, "board")

    def test_a_blank_or_a_sign_more_or_fewer(self):
        known = list(WORDS) + ["put 0 1", "take 0 0"]
        desk = desk_of("#./..")
        for row in known:
            for at in range(len(row) + 1):
                for sign in (" ", "\t", "\n", "x", "#", "_"):
                    self.refuse(NoRow, desk, row[:at] + sign + row[at:])
            for at in range(len(row)):
                if row[:at] + row[at + 1:] not in known:
                    self.refuse(NoRow, desk, row[:at] + row[at + 1:])
                if row[at].isalpha():
                    self.refuse(NoRow, desk, row[:at] + row[at].upper() + row[at + 1:])
            self.refuse(NoRow, desk, row.upper())
            self.refuse(NoRow, desk, row[::-1])
            self.refuse(NoRow, desk, row + " 0")
            self.refuse(NoRow, desk, row + " " + row)

    def test_anything(self):
        desk = desk_of("#./.#")
        for thing in odd_things():
            if thing != "board":
                self.refuse(NoRow, desk, thing)
        for thing in (["row"], ("row",), {"row": 1}, ["put", 0, 0], ("put", "0", "0"), [["row"]], {"put": [0, 0]}):
            self.refuse(NoRow, desk, thing)
        self.tell("#./.#", desk, "board")

    def test_refused_as_the_stages_tell(self):
        desk = desk_of("#.#/..#")
        self.refuse(Double, desk, "put 0 0")
        self.refuse(Double, desk, "put 1 2")
        self.refuse(NoCell, desk, "take 0 1")
        self.refuse(NoCell, desk, "take 1 0")
        for row in ("put 2 0", "put 0 3", "take 2 0", "take 0 3", "put 99 99", "take 10 0", "put 2 2", "take 6 6"):
            self.refuse(NoPlace, desk, row)
        self.refuse(TooMany, desk_of("./././././."), "row")
        self.refuse(TooMany, desk_of("......"), "column")
        self.refuse(NoDeed, Desk(), "undo")

    def test_no_row_goes_ahead(self):
        desk = desk_of("#")
        for row in ("put 00 0", "put 0 00", "take 9 09", "put 7 007", "put 99 100", "take 100 99", "put 1 -1"):
            self.refuse(NoRow, desk, row)

    def test_refused_rows_are_not_undone(self):
        desk = desk_of("#.")
        for row in NO_ROWS + [None, 5, ["undo"]]:
            with self.assertRaises(NoRow):
                desk.say(row)
        self.refuse(Double, desk, "put 0 0")
        self.refuse(NoCell, desk, "take 0 1")
        self.refuse(NoPlace, desk, "put 5 5")
        self.tell("ok", desk, "undo")
        self.tell("..", desk, "board")
        self.tell("ok", desk, "undo")
        self.tell(".", desk, "board")
        self.refuse(NoDeed, desk, "undo")


class LongRunsTest(DeskTesting):
    def drawn_row(self, source):
        word = source.choice(["put"] * 8 + ["take"] * 4 + ["row", "column"] * 2 + ["turn", "rest"] + ["undo"] * 3)
        place = (source.randrange(6), source.randrange(6))
        return (word,) + place if word in ("put", "take") else (word,)

    def do_both(self, desk, by_hand, words):
        refusal = by_hand.do(*words)
        row = " ".join(str(word) for word in words)
        if refusal is None:
            self.tell("ok", desk, row)
        else:
            with self.assertRaises(getattr(errors, refusal)):
                desk.say(row)
        self.tell(by_hand.text(), desk, "board")

    def test_two_desks_side_by_side(self):
        source = Random(37)
        for _ in range(6):
            pairs = [(Desk(), BenchByHand()), (Desk(), BenchByHand())]
            for step in range(400):
                desk, by_hand = pairs[source.randrange(2)]
                self.do_both(desk, by_hand, self.drawn_row(source))
                if step % 100 == 0:
                    self.tells_all_of(by_hand.board(), desk)
            for desk, by_hand in pairs:
                self.tell(by_hand.text(), desk, "board")
                while by_hand.behind:
                    self.do_both(desk, by_hand, ("undo",))
                self.refuse(NoDeed, desk, "undo")
                self.tell(".", desk, "board")


if __name__ == "__main__":
    unittest.main()
