"""The interface: the names are there, with their arguments as the document tells them."""

import importlib
import inspect
import unittest

from bellwrite.desk import Desk
from bellwrite.hearers import Hearer, KeenHearer

ARGUMENTS = {
    "choices": {"choose": "n k", "top_of": "k number"},
    "rows": {
        "row_of": "turns bells",
        "heard": "row delays",
        "can_come": "row reading late",
        "alike": "one other late",
        "reading_of_both": "one other late",
    },
    "boxes": {
        "box_of": "row late",
        "bell_row": "box late",
        "heard_box": "reading late",
        "box_count": "turns bells late",
    },
    "messages": {
        "box_number": "box",
        "box_of_message": "message bells",
        "written": "message turns bells late",
        "read": "reading turns bells late",
    },
    "crowds": {"keeps_apart": "rows late", "crowd": "rows late", "bell_rows": "turns bells late"},
    "openly": {
        "open_count": "turns most late",
        "written_openly": "message turns most late",
        "read_openly": "reading turns most late",
    },
    "talks": {"rung": "messages turns bells late", "talk_heard": "reading many turns bells late"},
    "hearers": {"Hearer": "turns bells late", "KeenHearer": "turns bells late"},
    "frames": {"shortest_frame": "bells late many", "best_bells": "turns late most"},
    "notes": {
        "note_number": "note",
        "note_of": "number",
        "parts": "number base",
        "number_of_parts": "figures base",
        "sent": "note turns bells late",
        "received": "reading turns bells late",
    },
    "ropes": {
        "belfry_count": "frames",
        "peal_written": "message frames",
        "peal_read": "readings frames",
        "peals_alike": "one other frames",
        "peal_crowd": "peals frames",
    },
    "lags": {
        "keyed_count": "turns bells late",
        "keyed": "message turns bells late",
        "unkeyed": "reading turns bells late",
    },
    "costs": {"cheapest": "many late turn_cost bell_cost most"},
    "desk": {"Desk": ""},
}


class Interface(unittest.TestCase):
    def test_functions_and_classes_and_their_arguments(self):
        for file, functions in ARGUMENTS.items():
            module = importlib.import_module(f"bellwrite.{file}")
            for name, arguments in functions.items():
                with self.subTest(f"{file}.{name}"):
                    parameters = inspect.signature(getattr(module, name)).parameters
                    self.assertEqual(list(parameters), arguments.split())

    def test_the_turn_of_a_hearer(self):
        for made in (Hearer, KeenHearer):
            parameters = inspect.signature(made.turn).parameters
            self.assertEqual(list(parameters), ["self", "many"])
            self.assertEqual(parameters["many"].default, 0)

    def test_what_a_desk_is_told(self):
        self.assertEqual(list(inspect.signature(Desk.told).parameters), ["self", "order"])


if __name__ == "__main__":
    unittest.main()
