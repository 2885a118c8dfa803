"""The names and arguments that the document's interface lists for what has landed."""

import inspect
import unittest

from rooklands import boards, texts

LISTED = {
    boards: {
        "is_board": ["thing"], "turned": ["board"], "rest": ["board"],
        "led": ["board", "rows", "columns"], "without_lines": ["board", "lines"],
    },
    texts: {"written": ["board"], "read": ["text"]},
}


class InterfaceTest(unittest.TestCase):
    def test_names_and_arguments(self):
        for module, functions in LISTED.items():
            for name, arguments in functions.items():
                with self.subTest(module.__name__ + "." + name):
                    parameters = inspect.signature(getattr(module, name)).parameters
                    self.assertEqual(list(parameters), arguments)
                    for parameter in parameters.values():
                        self.assertIs(parameter.default, inspect.Parameter.empty)


if __name__ == "__main__":
    unittest.main()
