"""Promise 3, as far as it has landed: what is told hangs together, and no answer hangs on another."""

import unittest
from itertools import permutations

from oracles import counts_by_hand
from rooklands.boards import led, rest, turned
from rooklands.heads import all_stairs, head_counts, heads, product_at, risen, same_counts
from rooklands.hits import counts_by, first_hitting, hit_counts, hits_by, next_hitting
from rooklands.lesser import beside, multiplied, pieces, struck, without
from rooklands.most import holds, is_showing, showing, sure
from rooklands.partings import parting_of, partings, stand_of, steps
from rooklands.rests import full_counts, is_counts, rest_counts, rests_well
from rooklands.stairs import is_stairs, stair_board, stairs_of
from rooklands.stands import counts, is_stand, number_of, stand_at, stands_of
from samples import ALL_STAIRS, DRAWN, EDGES, LARGE, UNEVEN, all_boards, drawn, empty, full, small_boards

ORDERS = {
    many: [order for at, order in enumerate(permutations(range(many))) if many < 4 or at % 101 == 17]
    for many in range(1, 7)
}


def padded(numbers, length):
    """Numbers with noughts behind, to a length."""
    return numbers + [0] * (length - len(numbers))


def added(one, other):
    length = max(len(one), len(other))
    return [sum(pair) for pair in zip(padded(one, length), padded(other, length))]


def without_noughts_behind(numbers):
    while numbers and numbers[-1] == 0:
        numbers = numbers[:-1]
    return numbers


class CountsHangTogetherTest(unittest.TestCase):
    def test_turned(self):
        for board in small_boards() + all_boards(3, 3) + DRAWN + EDGES:
            self.assertEqual(counts(turned(board)), counts(board))

    def test_led(self):
        for board in small_boards() + DRAWN + EDGES:
            for rows in ORDERS[board[0]]:
                for columns in ORDERS[board[1]]:
                    self.assertEqual(counts(led(board, rows, columns)), counts(board))

    def test_without_a_cell_and_struck(self):
        for board in small_boards() + all_boards(3, 3) + DRAWN + EDGES:
            for cell in board[2]:
                # Of just one row or one column, nothing is left, and nothing has the one stand of no cell.
                behind = [1] if 1 in board[:2] else counts(struck(board, cell))
                self.assertEqual(added(counts(without(board, cell)), [0] + behind), counts(board))

    def test_put_together(self):
        boards = all_boards(1, 2) + all_boards(2, 1) + all_boards(2, 2) + [full(3, 3), empty(2, 3), drawn(9, 4, 2, 6)]
        for one in boards:
            for other in boards:
                if one[0] + other[0] <= 6 and one[1] + other[1] <= 6:
                    together = counts(beside(one, other))
                    product = multiplied(counts(one), counts(other))
                    self.assertEqual(without_noughts_behind(together), without_noughts_behind(product))

    def test_pieces_multiplied(self):
        for board in small_boards() + all_boards(3, 3) + DRAWN + EDGES:
            product = [1]
            for piece in pieces(board):
                product = without_noughts_behind(multiplied(product, counts((board[0], board[1], piece))))
            self.assertEqual(product, without_noughts_behind(counts(board)))

    def test_each_cell_is_in_just_one_piece(self):
        for board in small_boards() + DRAWN + EDGES:
            self.assertEqual(tuple(sorted(cell for piece in pieces(board) for cell in piece)), board[2])


class MostHangsTogetherTest(unittest.TestCase):
    def test_a_showing_is_as_great_as_can_be(self):
        for board in small_boards() + all_boards(3, 3) + DRAWN + EDGES:
            stand, lines = showing(board)
            self.assertTrue(is_showing(board, (stand, lines)))
            self.assertTrue(is_stand(board, stand))
            self.assertTrue(holds(board, lines))
            self.assertEqual(len(stand), len(without_noughts_behind(counts(board))) - 1)
            self.assertTrue(all(cell in stand for cell in sure(board)[0]))
            self.assertFalse(any(cell in stand for cell in sure(board)[1]))


class HitsHangTogetherTest(unittest.TestCase):
    def test_hits_and_counts_tell_one_another(self):
        for board in small_boards() + all_boards(3, 3) + DRAWN + EDGES:
            if board[0] == board[1]:
                self.assertEqual(hits_by(counts(board)), hit_counts(board))
                self.assertEqual(counts_by(hit_counts(board)), counts(board))


    def test_hits_of_the_rest(self):
        """An order hits of the rest what it does not hit of the board."""
        for board in small_boards() + all_boards(3, 3) + DRAWN + EDGES:
            if board[0] == board[1]:
                self.assertEqual(hit_counts(rest(board)), hit_counts(board)[::-1])
                told = rest_counts(board[0], board[1], counts(board))
                self.assertEqual(hits_by(told), hit_counts(board)[::-1])
                self.assertEqual(counts_by(hit_counts(board)[::-1]), told)

    def test_hits_of_numbers_that_no_board_has(self):
        for high in range(1, 13):
            for numbers in ([1] * high, [0] * (high - 1) + [10 ** 39], [5] + [0] * (high - 1), list(range(high))):
                told = rest_counts(high, high, [1] + numbers)
                self.assertEqual(counts_by(hits_by([1] + numbers)[::-1]), told)
                self.assertEqual(rests_well(high, high, [1] + numbers), min(told) >= 0)


class RestsHangTogetherTest(unittest.TestCase):
    def test_counts_of_a_board_and_of_its_rest_tell_one_another(self):
        for board in small_boards() + all_boards(3, 3) + DRAWN + EDGES:
            high, wide = board[:2]
            self.assertTrue(is_counts(high, wide, counts(board)))
            self.assertTrue(rests_well(high, wide, counts(board)))
            self.assertEqual(rest_counts(high, wide, counts(board)), counts(rest(board)))
            self.assertEqual(rest_counts(high, wide, counts(rest(board))), counts(board))

    def test_full_counts(self):
        for high in range(1, 7):
            for wide in range(1, 7):
                self.assertEqual(full_counts(high, wide), counts(full(high, wide)))
                self.assertEqual(full_counts(high, wide), rest_counts(high, wide, counts(empty(high, wide))))
        for high in range(1, 13):
            for wide in range(1, 13):
                self.assertTrue(is_counts(high, wide, full_counts(high, wide)))
                self.assertEqual(rest_counts(high, wide, full_counts(high, wide)), [1] + [0] * min(high, wide))
            self.assertEqual(hits_by(full_counts(high, high))[:-1], [0] * high)


class StairsHangTogetherTest(unittest.TestCase):
    def falling(self, number, many):
        told = 1
        for less in range(many):
            told *= number - less
        return told

    def test_counts_by_numbers_alone(self):
        for stairs in ALL_STAIRS:
            board = stair_board(stairs)
            self.assertEqual(head_counts(stairs), padded(counts(board), len(stairs) + 1))
            self.assertEqual(stairs_of(board), stairs)

    def test_products_come_of_counts(self):
        for stairs in ALL_STAIRS:
            columns = len(stairs)
            for number in (0, 1, 2, 3, 5, 6, 7, 10 ** 9):
                falling = [self.falling(number, many) for many in range(columns + 1)]
                told = sum(falling[columns - size] * many for size, many in enumerate(head_counts(stairs)))
                self.assertEqual(product_at(stairs, number), told)

    def test_stairs_of_the_same_heads_have_the_same_counts(self):
        for stairs in ALL_STAIRS[::23]:
            told = all_stairs(stairs)
            self.assertIn(stairs, told)
            self.assertIn(risen(stairs), told)
            for other in told:
                if is_stairs(other):
                    self.assertTrue(same_counts(stairs, other))
                    self.assertEqual(heads(other), heads(stairs))
                    self.assertEqual(head_counts(other), head_counts(stairs))
                    self.assertEqual(risen(other), risen(stairs))

    def test_full_boards_are_stairs(self):
        for high in range(1, 7):
            for wide in range(1, 7):
                self.assertEqual(stairs_of(full(high, wide)), (high,) * wide)
                self.assertEqual(head_counts((high,) * wide), padded(full_counts(high, wide), wide + 1))


class PartingsHangTogetherTest(unittest.TestCase):
    def test_partings_are_stands_of_the_steps(self):
        for n in range(1, 7):
            board = steps(n)
            for many in range(1, n + 1):
                stands = stands_of(board, n - many)
                self.assertEqual(sorted(parting_of(n, stand) for stand in stands), partings(n, many))
                self.assertEqual(sorted(stand_of(n, parting) for parting in partings(n, many)), stands)
                self.assertEqual(len(partings(n, many)), counts(board)[n - many])

    def test_the_steps_are_stairs_led(self):
        for n in range(1, 7):
            lower = led(steps(n), tuple(reversed(range(n))), tuple(reversed(range(n))))
            self.assertEqual(counts(steps(n)), head_counts(tuple(range(n))))
            self.assertEqual(lower[2], stair_board(tuple(range(n)))[2])


class NothingHangsOnEarlierAnswersTest(unittest.TestCase):
    def ask_all(self):
        return [
            counts(LARGE), stands_of(UNEVEN, 1), stand_at(LARGE, 2, 9), number_of(LARGE, ((0, 0), (1, 2))),
            showing(LARGE), sure(LARGE), pieces(LARGE), struck(LARGE, (1, 2)), hit_counts(LARGE),
            first_hitting(LARGE, 3), next_hitting(LARGE, (0, 1, 2, 3, 4, 5), 2),
            hits_by([1, 4, 2]), counts_by([0, 0, 2]), rest_counts(2, 3, [1, 3, 1]), full_counts(12, 12),
            heads((1, 1, 3)), head_counts((1, 1, 3)), all_stairs((1, 1, 3)), risen((1, 1, 3)), partings(4, 2),
        ]

    def test_asked_in_between(self):
        first = repr(self.ask_all())
        for told in self.ask_all():
            if isinstance(told, list):
                told.clear()
        for board in DRAWN:
            self.assertEqual(counts(board), counts_by_hand(board))
            showing(board)
        self.assertEqual(repr(self.ask_all()), first)


if __name__ == "__main__":
    unittest.main()
