"""Promise 5, with 2 where it bears on it: how a board is written and read."""

import copy
import re
import unittest
from itertools import product

from rooklands.boards import is_board
from rooklands.errors import NoText
from rooklands.texts import read, written
from samples import EDGES, LARGE, LONG, TALL, UNEVEN, all_boards, empty, full, odd_things, small_boards


class WrittenTest(unittest.TestCase):
    def test_the_board_of_the_document(self):
        self.assertEqual(written((2, 3, ((0, 0), (0, 2), (1, 2)))), "#.#/..#")

    def test_known_boards(self):
        for board, text in (
            (empty(1, 1), "."), (full(1, 1), "#"), (empty(2, 3), ".../..."), (full(3, 2), "##/##/##"),
            (LONG, "#.##.."), (TALL, "./#/#/././#"),
            (LARGE, "#....#/..#.../.#..../...##./....../#....#"),
            (full(6, 6), "/".join(["######"] * 6)), (empty(6, 6), "/".join(["......"] * 6)),
        ):
            self.assertEqual(written(board), text)
            self.assertEqual(written(board), text)
            self.assertEqual(repr(read(text)), repr(board))

    def test_each_board_is_written_in_its_own_way_and_read_back(self):
        boards = small_boards() + EDGES
        for board in boards:
            text = written(board)
            self.assertIsInstance(text, str)
            told = read(text)
            self.assertEqual(repr(told), repr(board))
            self.assertTrue(is_board(told))
        self.assertEqual(len({written(board) for board in boards}), len(set(boards)))


class ReadTest(unittest.TestCase):
    def refuse(self, thing):
        before = copy.deepcopy(thing)
        for _ in range(2):
            with self.assertRaises(NoText, msg=repr(thing)) as caught:
                read(thing)
            self.assertIs(type(caught.exception), NoText)
        self.assertEqual(repr(thing), repr(before), "changed")

    def test_just_what_is_written_is_read(self):
        known = {written(board): board for high in range(1, 5) for wide in range(1, 5) if high * wide <= 6
                 for board in all_boards(high, wide)}
        for length in range(7):
            for signs in product("#./", repeat=length):
                text = "".join(signs)
                if re.fullmatch(r"[#.]+(/[#.]+)*", text) and len({len(row) for row in text.split("/")}) == 1:
                    if text in known:
                        self.assertEqual(repr(read(text)), repr(known[text]))
                    self.assertEqual(written(read(text)), text)
                else:
                    self.refuse(text)

    def test_rows_of_unlike_length(self):
        for text in ("#/##", "##/#", "##/##/#", "#.#/..", "..#/#./..#", "######/#####", "#/##/#"):
            self.refuse(text)

    def test_an_empty_text_and_strokes(self):
        for text in ("", "/", "//", "/#", "#/", "/#/", "#//#", "##//##", "#/#/", "/#/#", "/////", "##/##/", "/##/##"):
            self.refuse(text)

    def test_other_signs(self):
        for text in (
            " ", "#. ", " #", "# #", "#\n", "#/#\n", "\n#", "#\n#", "#\\#", "#,.", "0", "1", "x", "#x/..", "../.x",
            "-", "*", "#|#", "\t", "##/#a", "\u2026", "#\u00b7", "\uff03", "\uff0e", "#\u2215#", "\x00", "#.#/..#\r",
            "None", "#.;..", "'#'",
        ):
            self.refuse(text)

    def test_more_than_six_rows_or_columns(self):
        for sign in "#.":
            for many in range(1, 7):
                self.assertEqual(read("/".join([sign * 6] * many))[:2], (many, 6))
                self.assertEqual(read("/".join([sign * many] * 6))[:2], (6, many))
            for many in (7, 8, 12, 50):
                self.refuse(sign * many)
            for many in (7, 8, 12, 25):
                self.refuse("/".join([sign] * many))
            self.refuse("/".join([sign * 6] * 7))
            self.refuse("/".join([sign * 7] * 6))
            self.refuse("/".join([sign * 7] * 7))

    def test_what_is_no_text(self):
        for thing in odd_things():
            if repr(thing) == repr("#"):
                self.assertEqual(read(thing), full(1, 1))
            else:
                self.refuse(thing)
        for thing in (["#"], ("#",), {"#": "#"}, ["#", "/", "#"], ("#.#", "..#"), UNEVEN, [["#"]], {0: "#"}):
            self.refuse(thing)


if __name__ == "__main__":
    unittest.main()
