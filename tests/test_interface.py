"""The interface: the names are there, with their arguments as the document tells them."""

import importlib
import inspect
import unittest

ARGUMENTS = {
    "choices": {"choose": "n k", "top_of": "k number"},
    "rows": {
        "row_of": "turns bells",
        "heard": "row delays",
        "can_come": "row reading late",
        "alike": "one other late",
        "reading_of_both": "one other late",
    },
}


class Interface(unittest.TestCase):
    def test_functions_and_their_arguments(self):
        for file, functions in ARGUMENTS.items():
            module = importlib.import_module(f"bellwrite.{file}")
            for name, arguments in functions.items():
                with self.subTest(f"{file}.{name}"):
                    parameters = inspect.signature(getattr(module, name)).parameters
                    self.assertEqual(list(parameters), arguments.split())


if __name__ == "__main__":
    unittest.main()
