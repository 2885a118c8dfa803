"""Promise 3, as far as it has landed: what is told hangs together, and no answer hangs on another."""

import unittest
from itertools import permutations

from oracles import counts_by_hand
from rooklands.boards import led, turned
from rooklands.hits import counts_by, first_hitting, hit_counts, hits_by, next_hitting
from rooklands.lesser import beside, multiplied, pieces, struck, without
from rooklands.most import holds, is_showing, showing, sure
from rooklands.stands import counts, is_stand, number_of, stand_at, stands_of
from samples import DRAWN, EDGES, LARGE, UNEVEN, all_boards, drawn, empty, full, small_boards

ORDERS = {
    many: [order for at, order in enumerate(permutations(range(many))) if many < 4 or at % 101 == 17]
    for many in range(1, 7)
}


def padded(numbers, length):
    """Numbers with noughts behind, to a length."""
    return numbers + [0] * (length - len(numbers))


def added(one, other):
    length = max(len(one), len(other))
    return [sum(pair) for pair in zip(padded(one, length), padded(other, length))]


def without_noughts_behind(numbers):
    while numbers and numbers[-1] == 0:
        numbers = numbers[:-1]
    return numbers


class CountsHangTogetherTest(unittest.TestCase):
    def test_turned(self):
        for board in small_boards() + all_boards(3, 3) + DRAWN + EDGES:
            self.assertEqual(counts(turned(board)), counts(board))

    def test_led(self):
        for board in small_boards() + DRAWN + EDGES:
            for rows in ORDERS[board[0]]:
                for columns in ORDERS[board[1]]:
                    self.assertEqual(counts(led(board, rows, columns)), counts(board))

    def test_without_a_cell_and_struck(self):
        for board in small_boards() + all_boards(3, 3) + DRAWN + EDGES:
            for cell in board[2]:
                # Of just one row or one column, nothing is left, and nothing has the one stand of no cell.
                behind = [1] if 1 in board[:2] else counts(struck(board, cell))
                self.assertEqual(added(counts(without(board, cell)), [0] + behind), counts(board))

    def test_put_together(self):
        boards = all_boards(1, 2) + all_boards(2, 1) + all_boards(2, 2) + [full(3, 3), empty(2, 3), drawn(9, 4, 2, 6)]
        for one in boards:
            for other in boards:
                if one[0] + other[0] <= 6 and one[1] + other[1] <= 6:
                    together = counts(beside(one, other))
                    product = multiplied(counts(one), counts(other))
                    self.assertEqual(without_noughts_behind(together), without_noughts_behind(product))

    def test_pieces_multiplied(self):
        for board in small_boards() + all_boards(3, 3) + DRAWN + EDGES:
            product = [1]
            for piece in pieces(board):
                product = without_noughts_behind(multiplied(product, counts((board[0], board[1], piece))))
            self.assertEqual(product, without_noughts_behind(counts(board)))

    def test_each_cell_is_in_just_one_piece(self):
        for board in small_boards() + DRAWN + EDGES:
            self.assertEqual(tuple(sorted(cell for piece in pieces(board) for cell in piece)), board[2])


class MostHangsTogetherTest(unittest.TestCase):
    def test_a_showing_is_as_great_as_can_be(self):
        for board in small_boards() + all_boards(3, 3) + DRAWN + EDGES:
            stand, lines = showing(board)
            self.assertTrue(is_showing(board, (stand, lines)))
            self.assertTrue(is_stand(board, stand))
            self.assertTrue(holds(board, lines))
            self.assertEqual(len(stand), len(without_noughts_behind(counts(board))) - 1)
            self.assertTrue(all(cell in stand for cell in sure(board)[0]))
            self.assertFalse(any(cell in stand for cell in sure(board)[1]))


class HitsHangTogetherTest(unittest.TestCase):
    def test_hits_and_counts_tell_one_another(self):
        for board in small_boards() + all_boards(3, 3) + DRAWN + EDGES:
            if board[0] == board[1]:
                self.assertEqual(hits_by(counts(board)), hit_counts(board))
                self.assertEqual(counts_by(hit_counts(board)), counts(board))


class NothingHangsOnEarlierAnswersTest(unittest.TestCase):
    def ask_all(self):
        return [
            counts(LARGE), stands_of(UNEVEN, 1), stand_at(LARGE, 2, 9), number_of(LARGE, ((0, 0), (1, 2))),
            showing(LARGE), sure(LARGE), pieces(LARGE), struck(LARGE, (1, 2)), hit_counts(LARGE),
            first_hitting(LARGE, 3), next_hitting(LARGE, (0, 1, 2, 3, 4, 5), 2),
            hits_by([1, 4, 2]), counts_by([0, 0, 2]),
        ]

    def test_asked_in_between(self):
        first = repr(self.ask_all())
        for told in self.ask_all():
            if isinstance(told, list):
                told.clear()
        for board in DRAWN:
            self.assertEqual(counts(board), counts_by_hand(board))
            showing(board)
        self.assertEqual(repr(self.ask_all()), first)


if __name__ == "__main__":
    unittest.main()
