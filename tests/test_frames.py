"""Promises [27] and [28], and [2] as far as it speaks of shortest frames and best bells."""

import unittest

from bellwrite.boxes import box_count
from bellwrite.frames import best_bells, shortest_frame
from listing import SIXTY_FIGURES, frames_up_to

GREAT_NUMBERS = (SIXTY_FIGURES, 10 ** 60, 10 ** 999, 2 ** 4096, 10 ** 2500 + 1, 10 ** 3999, 10 ** 4000 - 1)


class ShortestFrame(unittest.TestCase):
    def assert_shortest(self, bells, late, many):
        told = shortest_frame(bells, late, many)
        self.assertTrue(box_count(told, bells, late) >= many, (bells, late))
        self.assertTrue(told == 0 or box_count(told - 1, bells, late) < many, (bells, late))

    def test_held_against_trying_all(self):
        for bells in range(1, 6):
            for late in range(5):
                counts = [box_count(turns, bells, late) for turns in range(300)]
                for many in range(60):
                    tried = min(turns for turns, count in enumerate(counts) if count >= many)
                    told = shortest_frame(bells, late, many)
                    self.assertIs(type(told), int)
                    self.assertEqual(told, tried, (bells, late, many))

    def test_examples(self):
        self.assertEqual(shortest_frame(2, 1, 6), 6)
        self.assertEqual(shortest_frame(2, 1, 7), 8)
        self.assertEqual(shortest_frame(1, 4, 3), 11)
        self.assertEqual(shortest_frame(3, 3, 10), 11)

    def test_no_messages(self):
        for bells in (0, 1, 2, 59, 60):
            for late in (0, 1, SIXTY_FIGURES):
                self.assertEqual(shortest_frame(bells, late, 0), 0)

    def test_one_message(self):
        for bells in range(61):
            for late in (0, 1, SIXTY_FIGURES):
                self.assertEqual(shortest_frame(bells, late, 1), bells)

    def test_two_messages(self):
        for bells in range(1, 61):
            for late in (0, 1, SIXTY_FIGURES):
                self.assertEqual(shortest_frame(bells, late, 2), bells + late + 1)

    def test_no_bells(self):
        for late in (0, 1, SIXTY_FIGURES):
            self.assertEqual(shortest_frame(0, late, 0), 0)
            self.assertEqual(shortest_frame(0, late, 1), 0)
            for many in (2, 3, SIXTY_FIGURES, 10 ** 3999):
                self.assertIsNone(shortest_frame(0, late, many))

    def test_at_a_count_and_beside_it(self):
        for bells in range(1, 61):
            for late in (0, 3, SIXTY_FIGURES):
                for parts in (1, 2, 9, 10 ** 20):
                    turns = parts * (late + 1) + bells
                    count = box_count(turns, bells, late)
                    self.assertEqual(shortest_frame(bells, late, count), turns)
                    self.assertEqual(shortest_frame(bells, late, count + 1), turns + late + 1)
                    before = turns - late - 1
                    one_less = before if box_count(before, bells, late) == count - 1 else turns
                    self.assertEqual(shortest_frame(bells, late, count - 1), one_less)

    def test_great_numbers_of_messages(self):
        for bells in (1, 2, 3, 7, 30, 59, 60):
            for many in GREAT_NUMBERS:
                for late in (0, 7, SIXTY_FIGURES):
                    self.assert_shortest(bells, late, many)
        for many in GREAT_NUMBERS:
            self.assertTrue(shortest_frame(1, 0, many) == many)


class BestBells(unittest.TestCase):
    def test_held_against_trying_all(self):
        for turns, most, late in frames_up_to(14, 16, 5):
            counts = [box_count(turns, bells, late) for bells in range(most + 1)]
            told = best_bells(turns, late, most)
            self.assertIs(type(told), int)
            self.assertEqual(told, counts.index(max(counts)), (turns, late, most))

    def test_examples(self):
        self.assertEqual(best_bells(6, 0, 6), 3)
        self.assertEqual(best_bells(6, 1, 6), 2)
        self.assertEqual(best_bells(10, 0, 3), 3)

    def test_the_least_of_several(self):
        # Counts of 1, 3, 3 and 1; of 1, 3, 6, 4, 5, 6, 1, 1 and 1.
        self.assertEqual(best_bells(3, 0, 3), 1)
        self.assertEqual(best_bells(8, 2, 8), 2)
        for late in (9, SIXTY_FIGURES):
            self.assertEqual(best_bells(9, late, 60), 0)
        for turns in range(1, 60, 2):
            self.assertEqual(best_bells(turns, 0, 60), turns // 2)

    def test_no_turns(self):
        for late in (0, 3, SIXTY_FIGURES):
            for most in (0, 1, 60):
                self.assertEqual(best_bells(0, late, most), 0)

    def test_a_most_of_nought(self):
        for turns in (0, 1, 9, SIXTY_FIGURES):
            for late in (0, 3, SIXTY_FIGURES):
                self.assertEqual(best_bells(turns, late, 0), 0)

    def test_a_most_above_the_turns(self):
        for turns in range(12):
            for late in range(4):
                self.assertEqual(best_bells(turns, late, 60), best_bells(turns, late, turns))

    def test_great_frames(self):
        self.assertEqual(best_bells(SIXTY_FIGURES, 0, 60), 60)
        self.assertEqual(best_bells(SIXTY_FIGURES, 10 ** 30, 59), 59)
        self.assertEqual(best_bells(SIXTY_FIGURES, SIXTY_FIGURES, 60), 0)
        self.assertEqual(best_bells(SIXTY_FIGURES, SIXTY_FIGURES - 1, 60), 0)
        self.assertEqual(best_bells(SIXTY_FIGURES, SIXTY_FIGURES - 2, 60), 1)


if __name__ == "__main__":
    unittest.main()
