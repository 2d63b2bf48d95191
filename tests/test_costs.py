"""Promise [37], and [2] as far as it speaks of cheapest frames."""

import unittest
from functools import cache
from itertools import product

from bellwrite.boxes import box_count
from bellwrite.costs import cheapest
from bellwrite.frames import shortest_frame
from listing import SIXTY_FIGURES


@cache
def shortest_by_trying(many, late, bells):
    enough = [turns for turns in range(200) if box_count(turns, bells, late) >= many]
    return enough[0] if enough else None


def by_trying(many, late, turn_cost, bell_cost, most):
    tried = []
    for bells in range(most + 1):
        turns = shortest_by_trying(many, late, bells)
        if turns is not None:
            tried.append((turns * turn_cost + bells * bell_cost, bells, turns))
    if not tried:
        return None
    cost, bells, turns = min(tried)
    return cost, turns, bells


class Cheapest(unittest.TestCase):
    def test_examples(self):
        self.assertEqual(cheapest(6, 1, 1, 1, 6), (8, 6, 2))
        self.assertEqual(cheapest(6, 1, 1, 0, 6), (6, 6, 2))
        self.assertEqual(cheapest(6, 1, 1, 9, 6), (20, 11, 1))
        self.assertEqual(cheapest(10, 3, 2, 5, 3), (37, 11, 3))

    def test_held_against_trying_all_numbers_of_bells(self):
        for many, late, most in product((0, 1, 2, 3, 6, 7, 20, 30), range(4), (0, 1, 2, 3, 6, 9)):
            for turn_cost, bell_cost in product((0, 1, 2, 5), (0, 1, 3, 20)):
                told = cheapest(many, late, turn_cost, bell_cost, most)
                tried = by_trying(many, late, turn_cost, bell_cost, most)
                self.assertEqual(told, tried, (many, late, turn_cost, bell_cost, most))

    def test_kinds(self):
        told = cheapest(6, 1, 1, 1, 6)
        self.assertIs(type(told), tuple)
        self.assertEqual([type(part) for part in told], [int, int, int])

    def test_costs_of_nought(self):
        # All cost nothing: the fewest bells, though with more turns.
        self.assertEqual(cheapest(6, 1, 0, 0, 60), (0, 11, 1))
        self.assertEqual(cheapest(1, 1, 0, 0, 60), (0, 0, 0))
        self.assertEqual(cheapest(10 ** 50, 0, 0, 0, 60), (0, 10 ** 50, 1))
        # Bells alone cost, turns alone cost.
        self.assertEqual(cheapest(6, 1, 0, 7, 60), (7, 11, 1))
        self.assertEqual(cheapest(6, 1, 7, 0, 60), (42, 6, 2))

    def test_the_fewest_bells_of_several_at_one_cost(self):
        # With one bell three turns, with two bells three turns.
        self.assertEqual(cheapest(3, 0, 1, 0, 60), (3, 3, 1))
        # With one bell four turns, with two bells four, with three four.
        self.assertEqual(cheapest(4, 0, 5, 0, 60), (20, 4, 1))
        # With two bells four turns, with one bell five: a bell costs as much as a turn.
        self.assertEqual(cheapest(5, 0, 1, 1, 60), (6, 5, 1))
        self.assertEqual(cheapest(5, 0, 2, 1, 60), (10, 4, 2))

    def test_no_messages(self):
        for late, most in product((0, 3, SIXTY_FIGURES), (0, 1, 60)):
            for turn_cost, bell_cost in product((0, 1, SIXTY_FIGURES), repeat=2):
                self.assertEqual(cheapest(0, late, turn_cost, bell_cost, most), (0, 0, 0))

    def test_one_message(self):
        for late, most in product((0, 3, SIXTY_FIGURES), (0, 1, 60)):
            for turn_cost, bell_cost in product((0, 1, SIXTY_FIGURES), repeat=2):
                self.assertEqual(cheapest(1, late, turn_cost, bell_cost, most), (0, 0, 0))

    def test_a_most_of_nought(self):
        for many in (2, 3, SIXTY_FIGURES, 10 ** 3999):
            for late in (0, 3, SIXTY_FIGURES):
                for turn_cost, bell_cost in product((0, 1, SIXTY_FIGURES), repeat=2):
                    self.assertIsNone(cheapest(many, late, turn_cost, bell_cost, 0))

    def test_a_most_of_one(self):
        for many in (2, 3, SIXTY_FIGURES):
            turns = (many - 1) * 4 + 1
            self.assertEqual(cheapest(many, 3, 2, 5, 1), (2 * turns + 5, turns, 1))

    def test_a_most_of_sixty(self):
        # The most bells that are let are taken, and no more.
        for most in (59, 60):
            turns = shortest_frame(most, 0, 10 ** 1000)
            self.assertEqual(cheapest(10 ** 1000, 0, 1, 0, most), (turns, turns, most))

    def test_great_numbers(self):
        for many in (SIXTY_FIGURES, 10 ** 999, 10 ** 4000 - 1):
            for late in (0, SIXTY_FIGURES):
                shortest = [(bells, shortest_frame(bells, late, many)) for bells in range(1, 61)]
                for turn_cost, bell_cost in ((1, SIXTY_FIGURES), (SIXTY_FIGURES, 1)):
                    costs = [(turns * turn_cost + bells * bell_cost, bells, turns) for bells, turns in shortest]
                    cost, bells, turns = min(costs)
                    self.assertTrue(cheapest(many, late, turn_cost, bell_cost, 60) == (cost, turns, bells))


if __name__ == "__main__":
    unittest.main()
