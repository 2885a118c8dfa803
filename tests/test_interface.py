"""The names and arguments that the document's interface lists."""

import inspect
import unittest

from rooklands import boards, heads, hits, lesser, likes, most, partings, rests, stairs, stands, texts, weights
from rooklands.bench import Bench
from rooklands.desk import Desk

LISTED = {
    boards: {
        "is_board": ["thing"], "turned": ["board"], "rest": ["board"],
        "led": ["board", "rows", "columns"], "without_lines": ["board", "lines"],
    },
    texts: {"written": ["board"], "read": ["text"]},
    stands: {
        "is_stand": ["board", "thing"], "counts": ["board"], "stands_of": ["board", "size"],
        "stand_at": ["board", "size", "number"], "number_of": ["board", "stand"], "next_stand": ["board", "stand"],
    },
    most: {"holds": ["board", "thing"], "is_showing": ["board", "thing"], "showing": ["board"], "sure": ["board"]},
    lesser: {
        "without": ["board", "cell"], "struck": ["board", "cell"], "beside": ["one", "other"],
        "multiplied": ["one", "other"], "pieces": ["board"],
    },
    hits: {
        "hits_of": ["board", "order"], "hit_counts": ["board"], "first_hitting": ["board", "many"],
        "next_hitting": ["board", "order", "many"], "hits_by": ["counts"], "counts_by": ["hits"],
    },
    rests: {
        "is_counts": ["high", "wide", "thing"], "rest_counts": ["high", "wide", "counts"],
        "rests_well": ["high", "wide", "counts"], "full_counts": ["high", "wide"],
    },
    stairs: {"is_stairs": ["thing"], "stair_board": ["stairs"], "stairs_of": ["board"]},
    heads: {
        "heads": ["stairs"], "head_counts": ["stairs"], "product_at": ["stairs", "number"],
        "same_counts": ["one", "other"], "all_stairs": ["stairs"], "risen": ["stairs"],
    },
    partings: {
        "is_parting": ["n", "thing"], "steps": ["n"], "parting_of": ["n", "stand"], "stand_of": ["n", "parting"],
        "partings": ["n", "many"],
    },
    weights: {
        "left_cells": ["stairs", "stand"], "by_weight": ["stairs", "size"], "lightest": ["stairs", "size"],
        "ones_product": ["stairs", "number"],
    },
    likes: {
        "is_way": ["one", "other", "thing"], "alike": ["one", "other"], "name_of": ["board"], "own_ways": ["board"],
    },
}
METHODS = {
    Bench: {
        "put": ["row", "column"], "take": ["row", "column"], "row": [], "column": [], "turn": [],
        "rest": [], "undo": [], "board": [], "counts": [], "most": [],
    },
    Desk: {"say": ["row"]},
}


class InterfaceTest(unittest.TestCase):
    def test_names_and_arguments(self):
        for module, functions in LISTED.items():
            for name, arguments in functions.items():
                with self.subTest(module.__name__ + "." + name):
                    parameters = inspect.signature(getattr(module, name)).parameters
                    self.assertEqual(list(parameters), arguments)
                    for parameter in parameters.values():
                        self.assertIs(parameter.default, inspect.Parameter.empty)

    def test_classes_and_their_methods(self):
        for kind, methods in METHODS.items():
            self.assertEqual(list(inspect.signature(kind).parameters), [])
            for name, arguments in methods.items():
                with self.subTest(kind.__name__ + "." + name):
                    self.assertEqual(list(inspect.signature(getattr(kind(), name)).parameters), arguments)


if __name__ == "__main__":
    unittest.main()
