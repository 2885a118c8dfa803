"""A desk: it has a bench, and is told rows of words."""

from rooklands.bench import Bench
from rooklands.errors import NoRow
from rooklands.lesser import pieces
from rooklands.stands import stand_at
from rooklands.texts import written

BLANK = " "
DONE = "ok"
NO_CELLS = "none"
BEYOND_TWO_FIGURES = 100


def put_cell(bench, row, column):
    """Makes a place a cell."""
    bench.put(row, column)
    return DONE


def take_cell(bench, row, column):
    """Takes a cell away."""
    bench.take(row, column)
    return DONE


def put_row(bench):
    """Puts a row below."""
    bench.row()
    return DONE


def put_column(bench):
    """Puts a column to the right."""
    bench.column()
    return DONE


def turn_board(bench):
    """Turns the board."""
    bench.turn()
    return DONE


def put_rest(bench):
    """Puts the rest in the board's place."""
    bench.rest()
    return DONE


def undo_deed(bench):
    """Undoes the last deed."""
    bench.undo()
    return DONE


def tell_board(bench):
    """The board, as it is written."""
    return written(bench.board())


def tell_counts(bench):
    """The counts of the board."""
    return BLANK.join([str(many) for many in bench.counts()])


def tell_most(bench):
    """How many cells the greatest stands of the board have."""
    return str(bench.most())


def tell_stand(bench):
    """The first of the greatest stands of the board."""
    stand = stand_at(bench.board(), bench.most(), 0)
    if not stand:
        return NO_CELLS
    return BLANK.join([f"{row}-{column}" for row, column in stand])


def tell_pieces(bench):
    """How many pieces the board has."""
    return str(len(pieces(bench.board())))


WITH_PLACE = {"put": put_cell, "take": take_cell}
ALONE = {
    "row": put_row,
    "column": put_column,
    "turn": turn_board,
    "rest": put_rest,
    "undo": undo_deed,
    "board": tell_board,
    "counts": tell_counts,
    "most": tell_most,
    "stand": tell_stand,
    "pieces": tell_pieces,
}


class Desk:
    """A bench that is changed and asked by rows."""

    def __init__(self):
        self.bench = Bench()

    def say(self, row):
        """What is answered to a row."""
        if not isinstance(row, str):
            raise NoRow("this is no text")
        words = row.split(BLANK)
        word = words[0]
        numbers = words[1:]
        if word in ALONE and not numbers:
            answer = ALONE[word]
            return answer(self.bench)
        if word in WITH_PLACE and are_two_numbers(numbers):
            deed = WITH_PLACE[word]
            return deed(self.bench, int(numbers[0]), int(numbers[1]))
        raise NoRow("the desk knows no such row")


def are_two_numbers(words):
    """Whether words are a row and a column as they are written to the desk."""
    # Of what int reads, a sign, a nought ahead or figures of other scripts are not so written.
    known = [str(number) for number in range(BEYOND_TWO_FIGURES)]
    return len(words) == 2 and all([word in known for word in words])
