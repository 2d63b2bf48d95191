"""Promises [35] and [36], and [2] and [3] as far as they speak of keyed rows."""

import random
import unittest

from bellwrite.boxes import box_count
from bellwrite.errors import NoReading, TooGreat
from bellwrite.lags import keyed, keyed_count, unkeyed
from bellwrite.messages import read, written
from bellwrite.rows import row_of
from listing import SIXTY_FIGURES, all_heard, frames_up_to, readings_up_to, refusal_of

SOME_LAGS = (0, 1, 2, 7, 100, SIXTY_FIGURES)
GREAT_FRAMES = ((SIXTY_FIGURES, 60, 9), (SIXTY_FIGURES, 2, 10 ** 30), (SIXTY_FIGURES, 7, 0), (10 ** 40, 33, 10 ** 20))


class KeyedCount(unittest.TestCase):
    def test_examples(self):
        self.assertEqual(keyed_count(6, 2, 1), 2)
        self.assertEqual(keyed_count(6, 2, 0), 5)
        self.assertEqual(keyed_count(12, 3, 1), 10)

    def test_the_frame_of_one_turn_less_one_bell_less_and_twice_the_lateness(self):
        for turns, bells, late in frames_up_to(12, 6, 5):
            if turns > 0 and bells > 0:
                told = keyed_count(turns, bells, late)
                self.assertIs(type(told), int)
                self.assertEqual(told, box_count(turns - 1, bells - 1, 2 * late), (turns, bells, late))

    def test_no_bell_or_no_turn(self):
        for late in (0, 1, 5, SIXTY_FIGURES):
            for many in (0, 1, 2, 60):
                self.assertEqual(keyed_count(0, many, late), 0)
                self.assertEqual(keyed_count(many, 0, late), 0)
            self.assertEqual(keyed_count(SIXTY_FIGURES, 0, late), 0)

    def test_one_bell(self):
        for turns in (1, 2, 9, SIXTY_FIGURES):
            for late in (0, 1, 5, SIXTY_FIGURES):
                self.assertEqual(keyed_count(turns, 1, late), 1)

    def test_more_bells_than_turns(self):
        for turns in range(5):
            for bells in range(turns + 1, 8):
                self.assertEqual(keyed_count(turns, bells, 1), 0)

    def test_a_lateness_far_above_the_turns(self):
        for turns in range(1, 7):
            for bells in range(1, turns + 1):
                self.assertEqual(keyed_count(turns, bells, SIXTY_FIGURES), 1)

    def test_great_frames(self):
        for turns, bells, late in GREAT_FRAMES:
            self.assertTrue(keyed_count(turns, bells, late) == box_count(turns - 1, bells - 1, 2 * late))


class Keyed(unittest.TestCase):
    def test_examples(self):
        self.assertEqual(keyed(0, 6, 2, 1), [0, 1])
        self.assertEqual(keyed(1, 6, 2, 1), [0, 4])
        self.assertEqual(keyed(4, 6, 2, 0), [0, 5])
        self.assertEqual(keyed(1, 12, 3, 1), [0, 1, 5])

    def test_the_key_and_the_written_row_one_turn_later(self):
        for turns, bells, late in frames_up_to(9, 4, 3):
            for message in range(keyed_count(turns, bells, late)):
                told = keyed(message, turns, bells, late)
                self.assertIs(type(told), list)
                behind = written(message, turns - 1, bells - 1, 2 * late)
                self.assertEqual(told, [0] + [turn + 1 for turn in behind])

    def test_is_a_row_of_the_frame(self):
        for turns, bells, late in frames_up_to(9, 4, 3):
            for message in range(keyed_count(turns, bells, late)):
                told = keyed(message, turns, bells, late)
                self.assertEqual(len(told), bells)
                self.assertEqual(row_of(turns, told), told)

    def test_one_bell(self):
        for turns in (1, 2, SIXTY_FIGURES):
            for late in (0, 1, SIXTY_FIGURES):
                self.assertEqual(keyed(0, turns, 1, late), [0])
                self.assertIs(refusal_of(keyed, 1, turns, 1, late), TooGreat)

    def test_below_nought_and_no_less_than_the_count(self):
        for turns, bells, late in frames_up_to(7, 4, 3) + list(GREAT_FRAMES):
            count = keyed_count(turns, bells, late)
            for message in (-1, -2, -count - 1, count, count + 1, 2 * count + 5, 10 ** 3999):
                self.assertTrue(refusal_of(keyed, message, turns, bells, late) is TooGreat, (turns, bells, late))
            if count > 0:
                self.assertIsNone(refusal_of(keyed, count - 1, turns, bells, late))

    def test_no_bell_or_no_turn(self):
        for turns, bells in ((0, 0), (0, 1), (0, 60), (1, 0), (9, 0), (SIXTY_FIGURES, 0)):
            for late in (0, 3, SIXTY_FIGURES):
                for message in (-1, 0, 1):
                    self.assertIs(refusal_of(keyed, message, turns, bells, late), TooGreat)

    def test_each_list_is_a_new_one(self):
        for bells in (1, 2):
            told = keyed(0, 6, bells, 1)
            before = list(told)
            told[0] = 5
            told.append(9)
            self.assertEqual(keyed(0, 6, bells, 1), before)


class Unkeyed(unittest.TestCase):
    def assert_refused(self, reading, turns, bells, late):
        refusal = refusal_of(unkeyed, reading, turns, bells, late)
        self.assertIs(refusal, NoReading, (reading, turns, bells, late))

    def test_examples(self):
        self.assertEqual(unkeyed([0, 1], 6, 2, 1), 0)
        self.assertEqual(unkeyed([7, 12], 6, 2, 1), 1)
        self.assertEqual(unkeyed([8, 11], 6, 2, 1), 1)
        self.assertEqual(unkeyed([8, 10], 6, 2, 1), 0)
        self.assertEqual(unkeyed([8, 8], 6, 2, 1), 0)

    def test_all_messages_with_all_delays_and_several_lags(self):
        for turns, bells, late in frames_up_to(8, 4, 2) + [(9, 2, 3), (11, 2, 5), (13, 3, 3), (3, 2, 9)]:
            for message in range(keyed_count(turns, bells, late)):
                for came in all_heard(keyed(message, turns, bells, late), late):
                    for lag in SOME_LAGS:
                        told = unkeyed([turn + lag for turn in came], turns, bells, late)
                        self.assertIs(type(told), int)
                        self.assertEqual(told, message, (came, lag, turns, bells, late))

    def test_all_readings_held_against_the_frame_behind_the_key(self):
        for turns, bells, late in frames_up_to(6, 3, 2):
            for reading in readings_up_to(9, 4):
                if len(reading) != bells or bells == 0 or turns == 0:
                    self.assert_refused(reading, turns, bells, late)
                    continue
                left = [turn - (reading[0] - late) - 1 for turn in reading[1:]]
                if min(left, default=0) < 0 or refusal_of(read, left, turns - 1, bells - 1, 2 * late) is not None:
                    self.assert_refused(reading, turns, bells, late)
                else:
                    told = unkeyed(reading, turns, bells, late)
                    self.assertEqual(told, read(left, turns - 1, bells - 1, 2 * late))

    def test_below_nought_once_the_first_one_is_taken_off(self):
        for lag in SOME_LAGS:
            self.assert_refused([lag, lag], 6, 2, 0)
            self.assert_refused([lag, lag, lag], 9, 3, 0)
            self.assert_refused([lag, lag, lag + 1], 9, 3, 0)
            self.assert_refused([lag, lag, lag + 4], 9, 3, 0)
            self.assertEqual(unkeyed([lag, lag + 1], 6, 2, 0), 0)
            self.assertEqual(unkeyed([lag, lag + 1, lag + 2], 9, 3, 0), 0)

    def test_one_bell(self):
        for lag in SOME_LAGS:
            for late in (0, 1, SIXTY_FIGURES):
                self.assertEqual(unkeyed([lag], 1, 1, late), 0)
                self.assertEqual(unkeyed([lag], 9, 1, late), 0)

    def test_no_bell_or_no_turn(self):
        for reading in ([], [0], [0, 1], [5, 9, 9]):
            for late in (0, 2, SIXTY_FIGURES):
                for turns in (0, 1, 2, 9, SIXTY_FIGURES):
                    self.assert_refused(reading, turns, 0, late)
                for bells in (0, 1, 2, 3):
                    self.assert_refused(reading, 0, bells, late)

    def test_not_as_many_numbers_as_bells(self):
        for turns, bells, late in ((9, 1, 1), (9, 2, 0), (9, 3, 1), (99, 60, 0)):
            row = keyed(0, turns, bells, late)
            self.assertEqual(unkeyed(row, turns, bells, late), 0)
            self.assert_refused(row[:-1], turns, bells, late)
            self.assert_refused(row[1:], turns, bells, late)
            self.assert_refused(row + [row[-1]], turns, bells, late)
            self.assert_refused([], turns, bells, late)

    def test_behind_the_last_part(self):
        # Four messages in the frame of 12 turns, 1 bell and a lateness of 2 behind the key.
        for lag in SOME_LAGS:
            self.assertEqual(keyed_count(13, 2, 1), 4)
            self.assertEqual(unkeyed([lag, lag + 11], 13, 2, 1), 3)
            self.assert_refused([lag, lag + 12], 13, 2, 1)
            self.assert_refused([lag, lag + 10 ** 59], 13, 2, 1)

    def test_of_no_box(self):
        for lag in SOME_LAGS:
            # The last one is heard a part ahead of the one before.
            self.assert_refused([lag, lag + 3, lag + 3], 12, 3, 1)
            self.assertEqual(unkeyed([lag, lag + 3, lag + 4], 12, 3, 1), 2)

    def test_more_bells_than_turns(self):
        for reading in ([0, 1, 2], [4, 5, 6], [0, 9, 20]):
            self.assert_refused(reading, 2, 3, 0)
            self.assert_refused(reading, 2, 3, 4)

    def test_a_lateness_far_above_the_turns(self):
        for late in (50, SIXTY_FIGURES):
            for lag in SOME_LAGS:
                row = keyed(0, 6, 3, late)
                self.assertEqual(row, [0, 1, 2])
                for delays in ((0, 0, 0), (late, late, late), (late, 0, 0), (0, late, 0), (0, 0, late), (late, late, 0)):
                    came = sorted(turn + delay + lag for turn, delay in zip(row, delays))
                    self.assertEqual(unkeyed(came, 6, 3, late), 0)

    def test_great_frames_and_lags(self):
        chance = random.Random(36)
        for turns, bells, late in GREAT_FRAMES:
            count = keyed_count(turns, bells, late)
            for message in (0, 1, count // 2, count - 1, chance.randrange(count)):
                row = keyed(message, turns, bells, late)
                for lag in SOME_LAGS:
                    for first in (0, late // 2, late):
                        delays = [first] + [chance.randint(0, late) for _ in range(bells - 1)]
                        came = sorted(turn + delay + lag for turn, delay in zip(row, delays))
                        self.assertTrue(unkeyed(came, turns, bells, late) == message)

    def test_nothing_handed_is_changed(self):
        reading = [7, 12]
        unkeyed(reading, 6, 2, 1)
        self.assertEqual(reading, [7, 12])
        reading[1] = 8
        self.assertEqual(unkeyed([7, 12], 6, 2, 1), 1)


if __name__ == "__main__":
    unittest.main()
