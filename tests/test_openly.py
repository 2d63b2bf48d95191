"""Promises [21] and [22], and [2] and [3] as far as they speak of rows of any number of bells."""

import math
import unittest

from bellwrite.boxes import box_count
from bellwrite.errors import NoReading, TooGreat
from bellwrite.messages import written
from bellwrite.openly import open_count, read_openly, written_openly
from bellwrite.rows import heard
from listing import SIXTY_FIGURES, all_heard, frames_up_to, readings_up_to, refusal_of


class OpenCount(unittest.TestCase):
    def test_the_sum_of_the_counts(self):
        for turns, most, late in frames_up_to(8, 10, 4):
            counts = [box_count(turns, bells, late) for bells in range(most + 1)]
            told = open_count(turns, most, late)
            self.assertIs(type(told), int)
            self.assertEqual(told, sum(counts))

    def test_examples(self):
        self.assertEqual(open_count(6, 2, 1), 1 + 3 + 6)
        self.assertEqual(open_count(6, 1, 1), 1 + 3)

    def test_no_lateness_and_all_bells_is_each_set_of_turns(self):
        for turns in range(12):
            self.assertEqual(open_count(turns, turns, 0), 2 ** turns)
            self.assertEqual(open_count(turns, 60, 0), 2 ** turns)

    def test_a_most_of_nought(self):
        for turns in (0, 1, SIXTY_FIGURES):
            for late in (0, 3, SIXTY_FIGURES):
                self.assertEqual(open_count(turns, 0, late), 1)

    def test_a_most_above_the_turns(self):
        for turns, most, late in frames_up_to(6, 6, 3):
            if most >= turns:
                self.assertEqual(open_count(turns, most, late), open_count(turns, turns, late))
                self.assertEqual(open_count(turns, 60, late), open_count(turns, turns, late))

    def test_great_frames(self):
        counts = [math.comb(SIXTY_FIGURES, bells) for bells in range(61)]
        self.assertTrue(open_count(SIXTY_FIGURES, 60, 0) == sum(counts))
        self.assertEqual(open_count(SIXTY_FIGURES, 60, SIXTY_FIGURES), 61)
        self.assertEqual(open_count(60, 60, SIXTY_FIGURES), 61)
        self.assertEqual(open_count(59, 60, SIXTY_FIGURES), 60)


class WrittenOpenly(unittest.TestCase):
    def assert_refused(self, message, turns, most, late):
        self.assertIs(refusal_of(written_openly, message, turns, most, late), TooGreat, (turns, most, late))

    def test_examples(self):
        rows = [[], [0], [2], [4], [0, 1], [0, 3], [2, 3], [0, 5], [2, 5], [4, 5]]
        self.assertEqual([written_openly(k, 6, 2, 1) for k in range(10)], rows)

    def test_the_rows_of_fewer_bells_come_first(self):
        for turns, most, late in frames_up_to(6, 7, 3):
            rows = [written(message, turns, bells, late)
                    for bells in range(most + 1) for message in range(box_count(turns, bells, late))]
            told = [written_openly(message, turns, most, late) for message in range(open_count(turns, most, late))]
            self.assertEqual(told, rows, (turns, most, late))

    def test_at_the_open_count_and_beside_it(self):
        for turns, most, late in frames_up_to(6, 7, 3):
            count = open_count(turns, most, late)
            self.assertEqual(written_openly(0, turns, most, late), [])
            self.assertEqual(len(written_openly(count - 1, turns, most, late)), min(turns, most))
            for message in (-1, -count, count, count + 1, 10 ** 3999):
                self.assert_refused(message, turns, most, late)

    def test_a_most_of_nought(self):
        for turns in (0, 1, SIXTY_FIGURES):
            for late in (0, SIXTY_FIGURES):
                self.assertEqual(written_openly(0, turns, 0, late), [])
                self.assert_refused(1, turns, 0, late)
                self.assert_refused(-1, turns, 0, late)

    def test_great_frames(self):
        for late in (0, 5, 10 ** 30):
            below = 0
            for bells in range(61):
                count = box_count(SIXTY_FIGURES, bells, late)
                if bells in (1, 2, 30, 60):
                    first = written_openly(below, SIXTY_FIGURES, 60, late)
                    self.assertEqual(first, list(range(bells)))
                    last = written_openly(below + count - 1, SIXTY_FIGURES, 60, late)
                    self.assertEqual(last, written(count - 1, SIXTY_FIGURES, bells, late))
                below += count
            self.assert_refused(below, SIXTY_FIGURES, 60, late)
            self.assert_refused(below + 1, SIXTY_FIGURES, 60, late)
            self.assertEqual(len(written_openly(below - 1, SIXTY_FIGURES, 60, late)), 60)

    def test_great_lateness(self):
        for message in range(61):
            self.assertEqual(written_openly(message, 60, 60, SIXTY_FIGURES), list(range(message)))
        self.assert_refused(61, 60, 60, SIXTY_FIGURES)

    def test_each_row_is_a_new_list(self):
        for message in range(10):
            row = written_openly(message, 6, 2, 1)
            told = list(row)
            row.append(9)
            self.assertEqual(written_openly(message, 6, 2, 1), told)


class ReadOpenly(unittest.TestCase):
    def assert_refused(self, reading, turns, most, late):
        self.assertIs(refusal_of(read_openly, reading, turns, most, late), NoReading, (reading, turns, most, late))

    def test_all_readings_of_small_frames(self):
        for turns, most, late in frames_up_to(5, 3, 3):
            messages = {}
            for message in range(open_count(turns, most, late)):
                for reading in all_heard(written_openly(message, turns, most, late), late):
                    self.assertNotIn(reading, messages)
                    messages[reading] = message
            for reading in readings_up_to(turns + late + 2, most + 1):
                if tuple(reading) in messages:
                    told = read_openly(reading, turns, most, late)
                    self.assertIs(type(told), int)
                    self.assertEqual(told, messages[tuple(reading)])
                else:
                    self.assert_refused(reading, turns, most, late)

    def test_a_most_above_the_turns(self):
        for turns in range(5):
            for late in range(3):
                for message in range(open_count(turns, 60, late)):
                    for reading in all_heard(written_openly(message, turns, 60, late), late):
                        self.assertEqual(read_openly(list(reading), turns, 60, late), message)
                self.assert_refused(list(range(turns + 1)), turns, 60, late)

    def test_bells_that_have_overtaken_one_another(self):
        # 1, 3 and 3 messages have fewer bells.
        row = written_openly(8, 9, 3, 3)
        self.assertEqual(row, [0, 1, 6])
        for delays, reading in (([3, 1, 2], [2, 3, 8]), ([3, 0, 0], [1, 3, 6]), ([1, 0, 3], [1, 1, 9])):
            self.assertEqual(heard(row, delays), reading)
            self.assertEqual(read_openly(reading, 9, 3, 3), 8)

    def test_more_bells_than_the_most(self):
        self.assertEqual(read_openly([0, 3], 6, 2, 1), 5)
        self.assert_refused([0, 3], 6, 1, 1)
        self.assert_refused([0, 3, 4], 6, 2, 1)
        self.assert_refused([0], 6, 0, 1)
        self.assert_refused(list(range(61)), SIXTY_FIGURES, 60, 0)
        self.assertEqual(read_openly(list(range(60)), 60, 60, SIXTY_FIGURES), 60)

    def test_no_box_of_the_frame_is_heard(self):
        for reading in ([0, 0], [4, 4], [0, 7], [6], [9]):
            self.assert_refused(reading, 6, 2, 1)

    def test_a_most_of_nought(self):
        for turns in (0, 1, SIXTY_FIGURES):
            for late in (0, SIXTY_FIGURES):
                self.assertEqual(read_openly([], turns, 0, late), 0)
                self.assert_refused([0], turns, 0, late)

    def test_no_turns(self):
        self.assertEqual(read_openly([], 0, 60, 3), 0)
        self.assert_refused([0], 0, 60, 3)
        self.assert_refused([0, 1], 0, 60, 3)

    def test_great_frames(self):
        for late in (0, 5, 10 ** 30):
            count = open_count(SIXTY_FIGURES, 60, late)
            for message in (0, 1, 2, SIXTY_FIGURES, 10 ** 500 + 3, count // 2, count - 2, count - 1):
                if message < count:
                    row = written_openly(message, SIXTY_FIGURES, 60, late)
                    latest = [turn + late for turn in row]
                    self.assertTrue(read_openly(row, SIXTY_FIGURES, 60, late) == message, late)
                    self.assertTrue(read_openly(latest, SIXTY_FIGURES, 60, late) == message, late)

    def test_nothing_handed_is_changed(self):
        reading = [3, 3]
        read_openly(reading, 6, 2, 1)
        self.assertEqual(reading, [3, 3])


if __name__ == "__main__":
    unittest.main()
