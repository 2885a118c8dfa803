"""Promise 3: what is told hangs together, and no answer hangs on another."""

import unittest
from itertools import permutations

from oracles import counts_by_hand
from rooklands.bench import Bench
from rooklands.boards import led, rest, turned
from rooklands.desk import Desk
from rooklands.heads import all_stairs, head_counts, heads, product_at, risen, same_counts
from rooklands.hits import counts_by, first_hitting, hit_counts, hits_by, next_hitting
from rooklands.lesser import beside, multiplied, pieces, struck, without
from rooklands.likes import alike, is_way, name_of, own_ways
from rooklands.most import holds, is_showing, showing, sure
from rooklands.partings import parting_of, partings, stand_of, steps
from rooklands.rests import full_counts, is_counts, rest_counts, rests_well
from rooklands.stairs import is_stairs, stair_board, stairs_of
from rooklands.stands import counts, is_stand, number_of, stand_at, stands_of
from rooklands.texts import read, written
from rooklands.weights import by_weight, left_cells, lightest, ones_product
from samples import ALL_STAIRS, DRAWN, EDGES, LARGE, UNEVEN, all_boards, drawn, empty, full, small_boards

ORDERS = {
    many: [order for at, order in enumerate(permutations(range(many))) if many < 4 or at % 101 == 17]
    for many in range(1, 7)
}


def padded(numbers, length):
    """Numbers with noughts behind, to a length."""
    return numbers + [0] * (length - len(numbers))


def added(one, other):
    length = max(len(one), len(other))
    return [sum(pair) for pair in zip(padded(one, length), padded(other, length))]


def without_noughts_behind(numbers):
    while numbers and numbers[-1] == 0:
        numbers = numbers[:-1]
    return numbers


class CountsHangTogetherTest(unittest.TestCase):
    def test_turned(self):
        for board in small_boards() + all_boards(3, 3) + DRAWN + EDGES:
            self.assertEqual(counts(turned(board)), counts(board))

    def test_led(self):
        for board in small_boards() + DRAWN + EDGES:
            for rows in ORDERS[board[0]]:
                for columns in ORDERS[board[1]]:
                    self.assertEqual(counts(led(board, rows, columns)), counts(board))

    def test_without_a_cell_and_struck(self):
        for board in small_boards() + all_boards(3, 3) + DRAWN + EDGES:
            for cell in board[2]:
                # Of just one row or one column, nothing is left, and nothing has the one stand of no cell.
                behind = [1] if 1 in board[:2] else counts(struck(board, cell))
                self.assertEqual(added(counts(without(board, cell)), [0] + behind), counts(board))

    def test_put_together(self):
        boards = all_boards(1, 2) + all_boards(2, 1) + all_boards(2, 2) + [full(3, 3), empty(2, 3), drawn(9, 4, 2, 6)]
        for one in boards:
            for other in boards:
                if one[0] + other[0] <= 6 and one[1] + other[1] <= 6:
                    together = counts(beside(one, other))
                    product = multiplied(counts(one), counts(other))
                    self.assertEqual(without_noughts_behind(together), without_noughts_behind(product))

    def test_pieces_multiplied(self):
        for board in small_boards() + all_boards(3, 3) + DRAWN + EDGES:
            product = [1]
            for piece in pieces(board):
                product = without_noughts_behind(multiplied(product, counts((board[0], board[1], piece))))
            self.assertEqual(product, without_noughts_behind(counts(board)))

    def test_each_cell_is_in_just_one_piece(self):
        for board in small_boards() + DRAWN + EDGES:
            self.assertEqual(tuple(sorted(cell for piece in pieces(board) for cell in piece)), board[2])


class MostHangsTogetherTest(unittest.TestCase):
    def test_a_showing_is_as_great_as_can_be(self):
        for board in small_boards() + all_boards(3, 3) + DRAWN + EDGES:
            stand, lines = showing(board)
            self.assertTrue(is_showing(board, (stand, lines)))
            self.assertTrue(is_stand(board, stand))
            self.assertTrue(holds(board, lines))
            self.assertEqual(len(stand), len(without_noughts_behind(counts(board))) - 1)
            self.assertTrue(all(cell in stand for cell in sure(board)[0]))
            self.assertFalse(any(cell in stand for cell in sure(board)[1]))


class HitsHangTogetherTest(unittest.TestCase):
    def test_hits_and_counts_tell_one_another(self):
        for board in small_boards() + all_boards(3, 3) + DRAWN + EDGES:
            if board[0] == board[1]:
                self.assertEqual(hits_by(counts(board)), hit_counts(board))
                self.assertEqual(counts_by(hit_counts(board)), counts(board))


    def test_hits_of_the_rest(self):
        """An order hits of the rest what it does not hit of the board."""
        for board in small_boards() + all_boards(3, 3) + DRAWN + EDGES:
            if board[0] == board[1]:
                self.assertEqual(hit_counts(rest(board)), hit_counts(board)[::-1])
                told = rest_counts(board[0], board[1], counts(board))
                self.assertEqual(hits_by(told), hit_counts(board)[::-1])
                self.assertEqual(counts_by(hit_counts(board)[::-1]), told)

    def test_hits_of_numbers_that_no_board_has(self):
        for high in range(1, 13):
            for numbers in ([1] * high, [0] * (high - 1) + [10 ** 39], [5] + [0] * (high - 1), list(range(high))):
                told = rest_counts(high, high, [1] + numbers)
                self.assertEqual(counts_by(hits_by([1] + numbers)[::-1]), told)
                self.assertEqual(rests_well(high, high, [1] + numbers), min(told) >= 0)


class RestsHangTogetherTest(unittest.TestCase):
    def test_counts_of_a_board_and_of_its_rest_tell_one_another(self):
        for board in small_boards() + all_boards(3, 3) + DRAWN + EDGES:
            high, wide = board[:2]
            self.assertTrue(is_counts(high, wide, counts(board)))
            self.assertTrue(rests_well(high, wide, counts(board)))
            self.assertEqual(rest_counts(high, wide, counts(board)), counts(rest(board)))
            self.assertEqual(rest_counts(high, wide, counts(rest(board))), counts(board))

    def test_full_counts(self):
        for high in range(1, 7):
            for wide in range(1, 7):
                self.assertEqual(full_counts(high, wide), counts(full(high, wide)))
                self.assertEqual(full_counts(high, wide), rest_counts(high, wide, counts(empty(high, wide))))
        for high in range(1, 13):
            for wide in range(1, 13):
                self.assertTrue(is_counts(high, wide, full_counts(high, wide)))
                self.assertEqual(rest_counts(high, wide, full_counts(high, wide)), [1] + [0] * min(high, wide))
            self.assertEqual(hits_by(full_counts(high, high))[:-1], [0] * high)


class StairsHangTogetherTest(unittest.TestCase):
    def falling(self, number, many):
        told = 1
        for less in range(many):
            told *= number - less
        return told

    def test_counts_by_numbers_alone(self):
        for stairs in ALL_STAIRS:
            board = stair_board(stairs)
            self.assertEqual(head_counts(stairs), padded(counts(board), len(stairs) + 1))
            self.assertEqual(stairs_of(board), stairs)

    def test_products_come_of_counts(self):
        for stairs in ALL_STAIRS:
            columns = len(stairs)
            for number in (0, 1, 2, 3, 5, 6, 7, 10 ** 9):
                falling = [self.falling(number, many) for many in range(columns + 1)]
                told = sum(falling[columns - size] * many for size, many in enumerate(head_counts(stairs)))
                self.assertEqual(product_at(stairs, number), told)

    def test_stairs_of_the_same_heads_have_the_same_counts(self):
        for stairs in ALL_STAIRS[::23]:
            told = all_stairs(stairs)
            self.assertIn(stairs, told)
            self.assertIn(risen(stairs), told)
            for other in told:
                if is_stairs(other):
                    self.assertTrue(same_counts(stairs, other))
                    self.assertEqual(heads(other), heads(stairs))
                    self.assertEqual(head_counts(other), head_counts(stairs))
                    self.assertEqual(risen(other), risen(stairs))

    def test_full_boards_are_stairs(self):
        for high in range(1, 7):
            for wide in range(1, 7):
                self.assertEqual(stairs_of(full(high, wide)), (high,) * wide)
                self.assertEqual(head_counts((high,) * wide), padded(full_counts(high, wide), wide + 1))


class PartingsHangTogetherTest(unittest.TestCase):
    def test_partings_are_stands_of_the_steps(self):
        for n in range(1, 7):
            board = steps(n)
            for many in range(1, n + 1):
                stands = stands_of(board, n - many)
                self.assertEqual(sorted(parting_of(n, stand) for stand in stands), partings(n, many))
                self.assertEqual(sorted(stand_of(n, parting) for parting in partings(n, many)), stands)
                self.assertEqual(len(partings(n, many)), counts(board)[n - many])

    def test_the_steps_are_stairs_led(self):
        for n in range(1, 7):
            lower = led(steps(n), tuple(reversed(range(n))), tuple(reversed(range(n))))
            self.assertEqual(counts(steps(n)), head_counts(tuple(range(n))))
            self.assertEqual(lower[2], stair_board(tuple(range(n)))[2])


class WeightsHangTogetherTest(unittest.TestCase):
    light = [stairs for stairs in ALL_STAIRS if sum(stairs) <= 20]

    def ones(self, number, many):
        """The ones of a number, of it less 1 and so on, so many, multiplied; nothing where some are of 0 or less."""
        told = [1]
        for less in range(many):
            if number - less <= 0:
                return []
            told = multiplied(told, [1] * (number - less))
        return told

    def test_weights_come_to_the_counts(self):
        for stairs in self.light[::5]:
            self.assertEqual([sum(by_weight(stairs, size)) for size in range(len(stairs) + 1)], head_counts(stairs))

    def test_products_of_ones_come_to_the_products(self):
        for stairs in self.light:
            for number in range(9):
                self.assertEqual(sum(ones_product(stairs, number)), product_at(stairs, number))

    def test_products_of_ones_come_of_weights(self):
        for stairs in self.light[::7] + [(0,) * 6, (4,) * 5, (0, 1, 2, 3, 4, 5), (2, 3, 4, 5, 6)]:
            columns = len(stairs)
            weights = [by_weight(stairs, size) for size in range(columns + 1)]
            for number in range(9):
                told = []
                for size, numbers in enumerate(weights):
                    ones = self.ones(number, columns - size)
                    told = added(told, multiplied(numbers, ones)) if ones else told
                self.assertEqual(without_noughts_behind(told), ones_product(stairs, number))

    def test_stairs_of_the_same_heads_have_the_same_weights(self):
        for stairs in self.light[::47]:
            for other in all_stairs(stairs):
                if is_stairs(other):
                    for size in range(len(stairs) + 1):
                        self.assertEqual(by_weight(other, size), by_weight(stairs, size))

    def test_the_lightest_has_the_least_weight(self):
        for stairs in self.light[::7]:
            for size in range(len(stairs) + 1):
                stand, weights = lightest(stairs, size), by_weight(stairs, size)
                if stand is None:
                    self.assertEqual(sum(weights), 0)
                else:
                    self.assertTrue(is_stand(stair_board(stairs), stand))
                    weight = len(left_cells(stairs, stand))
                    self.assertEqual([sum(weights[:weight]), weights[weight] > 0], [0, True])


class LikesHangTogetherTest(unittest.TestCase):
    def test_alike_boards_have_the_same_counts(self):
        boards = all_boards(3, 3)[::7] + all_boards(2, 3)[::5] + all_boards(3, 2)[::5]
        for one in boards:
            for other in boards:
                told = alike(one, other)
                mine, theirs = padded(counts(one), 4), padded(counts(other), 4)
                if told[0] == "counts":
                    size = told[1]
                    self.assertEqual(told[2:], (mine[size], theirs[size]))
                    self.assertEqual(mine[:size], theirs[:size])
                    self.assertNotEqual(mine[size], theirs[size])
                else:
                    self.assertEqual(mine, theirs)
                same_name = name_of(one) == name_of(other)
                self.assertEqual(same_name, told[0] == "alike")
                if not same_name:
                    self.assertEqual(name_of(turned(one)) == name_of(other), told[0] == "turned")

    def test_not_only_alike_boards_have_the_same_counts(self):
        one, other = read(".../..#/###"), read(".../.##/.##")
        self.assertEqual(counts(one), counts(other))
        self.assertEqual(alike(one, other), ("none",))

    def test_ways_lead(self):
        for board in DRAWN + EDGES:
            other = led(board, ORDERS[board[0]][-1], ORDERS[board[1]][0])
            kind, way = alike(board, other)
            self.assertEqual(kind, "alike")
            self.assertTrue(is_way(board, other, way))
            self.assertLessEqual(way, (ORDERS[board[0]][-1], ORDERS[board[1]][0]))
            self.assertEqual(led(board, way[0], way[1]), other)
            self.assertEqual(own_ways(board), own_ways(other))
            self.assertEqual(own_ways(board), own_ways(turned(board)))
            self.assertEqual(own_ways(board), own_ways(rest(board)))
            self.assertEqual(name_of(board), name_of(other))
            self.assertEqual(counts(name_of(board)), counts(board))
            if board[0] == board[1]:
                self.assertEqual(hit_counts(name_of(board)), hit_counts(board))


class BenchAndDeskHangTogetherTest(unittest.TestCase):
    def test_a_desk_tells_what_a_bench_and_the_functions_tell(self):
        for board in small_boards()[::7] + DRAWN + EDGES:
            bench, desk = Bench(), Desk()
            for _ in range(board[0] - 1):
                bench.row()
                desk.say("row")
            for _ in range(board[1] - 1):
                bench.column()
                desk.say("column")
            for row, column in board[2][::-1]:
                bench.put(row, column)
                desk.say(f"put {row} {column}")
            self.agree(board, bench, desk)
            bench.turn()
            desk.say("turn")
            self.agree(turned(board), bench, desk)
            bench.rest()
            desk.say("rest")
            self.agree(rest(turned(board)), bench, desk)
            for wanted in (turned(board), board):
                bench.undo()
                desk.say("undo")
                self.agree(wanted, bench, desk)

    def agree(self, board, bench, desk):
        self.assertEqual(bench.board(), board)
        self.assertEqual(read(desk.say("board")), board)
        self.assertEqual(desk.say("board"), written(board))
        self.assertEqual(bench.counts(), counts(board))
        self.assertEqual(desk.say("counts"), " ".join(str(many) for many in counts(board)))
        self.assertEqual(bench.most(), len(showing(board)[0]))
        self.assertEqual(desk.say("most"), str(bench.most()))
        stand = stand_at(board, bench.most(), 0)
        self.assertEqual(desk.say("stand"), " ".join(f"{row}-{column}" for row, column in stand) or "none")
        self.assertEqual(desk.say("pieces"), str(len(pieces(board))))


class NothingHangsOnEarlierAnswersTest(unittest.TestCase):
    def ask_all(self):
        return [
            counts(LARGE), stands_of(UNEVEN, 1), stand_at(LARGE, 2, 9), number_of(LARGE, ((0, 0), (1, 2))),
            showing(LARGE), sure(LARGE), pieces(LARGE), struck(LARGE, (1, 2)), hit_counts(LARGE),
            first_hitting(LARGE, 3), next_hitting(LARGE, (0, 1, 2, 3, 4, 5), 2),
            hits_by([1, 4, 2]), counts_by([0, 0, 2]), rest_counts(2, 3, [1, 3, 1]), full_counts(12, 12),
            heads((1, 1, 3)), head_counts((1, 1, 3)), all_stairs((1, 1, 3)), risen((1, 1, 3)), partings(4, 2),
            left_cells((2, 2), ((0, 0),)), by_weight((2, 2, 3), 2), lightest((2, 2, 3), 2), ones_product((2, 2, 3), 4),
            alike(LARGE, turned(LARGE)), name_of(LARGE), own_ways(LARGE), Bench().counts(), Desk().say("counts"),
        ]

    def test_asked_in_between(self):
        first = repr(self.ask_all())
        for told in self.ask_all():
            if isinstance(told, list):
                told.clear()
        for board in DRAWN:
            self.assertEqual(counts(board), counts_by_hand(board))
            showing(board)
        self.assertEqual(repr(self.ask_all()), first)


if __name__ == "__main__":
    unittest.main()
