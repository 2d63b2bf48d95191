"""Promises [23] and [24], and [2] and [3] as far as they speak of talks."""

import unittest
from itertools import product

from bellwrite.boxes import box_count
from bellwrite.errors import NoReading, NoRow, TooGreat
from bellwrite.messages import written
from bellwrite.talks import rung, talk_heard
from listing import SIXTY_FIGURES, all_heard, readings_up_to, refusal_of, talk_frames_up_to, talks_of

FRAMES_WITHOUT_TALKS = ((0, 0, 0), (1, 0, 0), (5, 0, 2), (SIXTY_FIGURES, 0, 0), (5, 0, SIXTY_FIGURES),
                        (0, 1, 0), (0, 60, 9), (2, 3, 0), (2, 3, SIXTY_FIGURES), (59, 60, 1))


def rung_by_listing(talk, turns, bells, late):
    return [place * (turns + late) + turn
            for place, message in enumerate(talk) for turn in written(message, turns, bells, late)]


def all_talk_readings(talk, turns, bells, late):
    """Each reading that the road can make of a talk."""
    heard = [sorted(all_heard(written(message, turns, bells, late), late)) for message in talk]
    return [[place * (turns + late) + turn for place, reading in enumerate(chosen) for turn in reading]
            for chosen in product(*heard)]


class Rung(unittest.TestCase):
    def assert_refused(self, refusal, messages, turns, bells, late):
        self.assertIs(refusal_of(rung, messages, turns, bells, late), refusal, (turns, bells, late))

    def test_examples(self):
        self.assertEqual(rung([0, 5, 1], 6, 2, 1), [0, 1, 11, 12, 14, 17])
        self.assertEqual(rung([1, 1, 0, 1], 3, 1, 1), [2, 6, 8, 14])
        self.assertEqual(rung([2, 0], 3, 1, 0), [2, 3])
        self.assertEqual(rung([3], 8, 3, 0), [1, 2, 3])

    def test_all_talks_of_small_frames(self):
        for turns, bells, late in talk_frames_up_to(5, 3, 3):
            for many in range(4):
                for talk in talks_of(min(box_count(turns, bells, late), 6), many):
                    told = rung(talk, turns, bells, late)
                    self.assertIs(type(told), list)
                    self.assertEqual(told, rung_by_listing(talk, turns, bells, late))
                    self.assertEqual(told, sorted(set(told)))

    def test_no_messages(self):
        for turns, bells, late in talk_frames_up_to(5, 5, 3) + [(SIXTY_FIGURES, 60, SIXTY_FIGURES)]:
            self.assertEqual(rung([], turns, bells, late), [])

    def test_one_message_in_the_frame(self):
        self.assertEqual(rung([0, 0, 0], 1, 1, 0), [0, 1, 2])
        self.assertEqual(rung([0, 0], 3, 2, 4), [0, 1, 7, 8])
        self.assert_refused(TooGreat, [0, 1], 3, 2, 4)

    def test_as_many_bells_as_turns(self):
        for bells in (1, 2, 59, 60):
            for late in (0, 3, 500, SIXTY_FIGURES):
                start = bells + late
                self.assertEqual(rung([0, 0], bells, bells, late),
                                 list(range(bells)) + list(range(start, start + bells)))

    def test_great_frames(self):
        for bells in (1, 2, 7, 60):
            for late in (0, 5, 10 ** 30, SIXTY_FIGURES):
                count = box_count(SIXTY_FIGURES, bells, late)
                talk = [count - 1, 0, count // 2]
                told = rung(talk, SIXTY_FIGURES, bells, late)
                self.assertEqual(told, rung_by_listing(talk, SIXTY_FIGURES, bells, late))
                self.assert_refused(TooGreat, [0, count], SIXTY_FIGURES, bells, late)

    def test_twenty_thousand_messages(self):
        talk = [place % 3 for place in range(20000)]
        told = rung(talk, 5, 1, 1)
        # Not the words of assertEqual: to tell how lists as long as these differ takes very long.
        self.assertTrue(told == [place * 6 + message * 2 for place, message in enumerate(talk)])

    def test_no_frame_for_talks(self):
        for turns, bells, late in FRAMES_WITHOUT_TALKS:
            for talk in ([], [0], [1], [-1], [0, 0], [0, -1], [10 ** 3999], [-10 ** 3999]):
                self.assert_refused(NoRow, talk, turns, bells, late)

    def test_messages_below_nought_or_no_less_than_the_count(self):
        for turns, bells, late in talk_frames_up_to(6, 4, 3):
            count = box_count(turns, bells, late)
            for wrong in (-1, -count, -10 ** 3999, count, count + 1, 10 ** 3999):
                for talk in ([wrong], [0, wrong], [wrong, 0], [0, count - 1, wrong], [count - 1, wrong, 0]):
                    self.assert_refused(TooGreat, talk, turns, bells, late)

    def test_nothing_handed_is_changed_or_kept_and_each_list_is_new(self):
        talk = [0, 5, 1]
        told = rung(talk, 6, 2, 1)
        self.assertEqual(talk, [0, 5, 1])
        talk[0] = 3
        self.assertEqual(told, [0, 1, 11, 12, 14, 17])
        told.append(9)
        self.assertEqual(rung([0, 5, 1], 6, 2, 1), [0, 1, 11, 12, 14, 17])
        self.assertEqual(talk, [3, 5, 1])
        nothing = rung([], 6, 2, 1)
        nothing.append(9)
        self.assertEqual(rung([], 6, 2, 1), [])


class TalkHeard(unittest.TestCase):
    def assert_refused(self, reading, many, turns, bells, late):
        refusal = refusal_of(talk_heard, reading, many, turns, bells, late)
        self.assertIs(refusal, NoReading, (reading[:9], many, turns, bells, late))

    def test_examples(self):
        self.assertEqual(talk_heard([0, 1, 11, 12, 14, 17], 3, 6, 2, 1), [0, 5, 1])
        self.assertEqual(talk_heard([1, 1, 12, 13, 15, 18], 3, 6, 2, 1), [0, 5, 1])

    def test_all_delays_within_the_lateness(self):
        for turns, bells, late in talk_frames_up_to(4, 3, 2):
            for many in range(4 if bells == 1 else 3):
                for talk in talks_of(box_count(turns, bells, late), many):
                    for reading in all_talk_readings(talk, turns, bells, late):
                        told = talk_heard(reading, many, turns, bells, late)
                        self.assertIs(type(told), list)
                        self.assertEqual(told, talk)

    def test_all_readings_of_small_frames(self):
        for turns, bells, late in talk_frames_up_to(3, 2, 1):
            for many in range(3):
                talks = {}
                for talk in talks_of(box_count(turns, bells, late), many):
                    for reading in all_talk_readings(talk, turns, bells, late):
                        self.assertNotIn(tuple(reading), talks)
                        talks[tuple(reading)] = talk
                for reading in readings_up_to(many * (turns + late) + 2, many * bells + 1):
                    if tuple(reading) in talks:
                        self.assertEqual(talk_heard(reading, many, turns, bells, late), talks[tuple(reading)])
                    else:
                        self.assert_refused(reading, many, turns, bells, late)

    def test_no_messages(self):
        for turns, bells, late in talk_frames_up_to(4, 4, 3) + [(SIXTY_FIGURES, 60, SIXTY_FIGURES)]:
            self.assertEqual(talk_heard([], 0, turns, bells, late), [])
            self.assert_refused([0], 0, turns, bells, late)
            self.assert_refused([turns + late], 0, turns, bells, late)
            self.assert_refused(list(range(bells)), 0, turns, bells, late)

    def test_the_last_turn_of_a_message_and_just_behind_it(self):
        # Rows [0] and [2], four turns for each message.
        self.assertEqual(talk_heard([3, 4], 2, 3, 1, 1), [1, 0])
        self.assertEqual(talk_heard([3, 7], 2, 3, 1, 1), [1, 1])
        self.assert_refused([3, 3], 2, 3, 1, 1)
        self.assert_refused([4, 4], 2, 3, 1, 1)
        self.assert_refused([4, 7], 2, 3, 1, 1)
        self.assert_refused([3, 8], 2, 3, 1, 1)
        self.assert_refused([4], 1, 3, 1, 1)

    def test_a_number_that_belongs_to_no_message_of_the_talk(self):
        reading = rung([1, 4], 6, 2, 1)
        self.assertEqual(talk_heard(reading, 2, 6, 2, 1), [1, 4])
        for behind in (14, 15, 20, 21, SIXTY_FIGURES):
            self.assert_refused(reading + [behind], 2, 6, 2, 1)
            self.assert_refused(reading + [behind, behind + 1], 2, 6, 2, 1)
            self.assert_refused(reading[:2] + [behind, behind + 1], 2, 6, 2, 1)
            self.assert_refused([behind, behind + 1], 1, 6, 2, 1)
        self.assert_refused(reading, 1, 6, 2, 1)
        self.assert_refused(reading, 3, 6, 2, 1)

    def test_as_many_numbers_as_bells_in_all_but_not_in_each_message(self):
        self.assert_refused([0, 7, 8, 9], 2, 6, 2, 1)
        self.assert_refused([0, 1, 3, 7], 2, 6, 2, 1)
        self.assert_refused([0, 1, 3, 5], 2, 6, 2, 1)
        self.assert_refused([7, 8, 10, 12], 2, 6, 2, 1)

    def test_what_cannot_be_read(self):
        for reading in ([0, 0], [2, 2], [4, 4], [0], [0, 1, 2]):
            self.assert_refused(reading, 1, 6, 2, 1)
            self.assert_refused([0, 1] + [turn + 7 for turn in reading], 2, 6, 2, 1)
            self.assert_refused(reading + [7, 8], 2, 6, 2, 1)
        # In the frame's turns and lateness, but of no message: the last part is not whole.
        self.assertEqual(talk_heard([4], 1, 5, 1, 2), [1])
        self.assert_refused([6], 1, 5, 1, 2)

    def test_more_messages_than_can_have_been_heard(self):
        for many in (1, 3, 10 ** 9, SIXTY_FIGURES, 10 ** 3999):
            self.assert_refused([], many, 6, 2, 1)
            self.assert_refused([0, 1, 7, 8], many, 6, 2, 1)

    def test_a_lateness_far_above_the_turns(self):
        self.assertEqual(talk_heard([500, 501, 502, 1003], 2, 2, 2, 500), [0, 0])
        self.assert_refused([500, 502, 503, 1003], 2, 2, 2, 500)

    def test_great_frames(self):
        for bells in (1, 2, 7, 60):
            for late in (0, 5, 10 ** 30, SIXTY_FIGURES):
                count = box_count(SIXTY_FIGURES, bells, late)
                talk = [count - 1, 0, count // 2, count // 3]
                row = rung(talk, SIXTY_FIGURES, bells, late)
                latest = [turn + late for turn in row]
                crosswise = sorted(turn + (late if place % 2 == 0 else 0) for place, turn in enumerate(row))
                for reading in (row, latest, crosswise):
                    self.assertTrue(talk_heard(reading, 4, SIXTY_FIGURES, bells, late) == talk, (bells, late))
                self.assert_refused([turn + late + 1 for turn in row], 4, SIXTY_FIGURES, bells, late)

    def test_twenty_thousand_numbers(self):
        talk = [place * place % 6 for place in range(10000)]
        reading = rung(talk, 6, 2, 1)
        self.assertEqual(len(reading), 20000)
        later = sorted(turn + place % 2 for place, turn in enumerate(reading))
        self.assertTrue(talk_heard(later, 10000, 6, 2, 1) == talk)
        self.assert_refused(later, 9999, 6, 2, 1)
        self.assert_refused(later[:-1], 10000, 6, 2, 1)

    def test_nothing_handed_is_changed_or_kept_and_each_list_is_new(self):
        reading = [0, 1, 11, 12, 14, 17]
        told = talk_heard(reading, 3, 6, 2, 1)
        self.assertEqual(reading, [0, 1, 11, 12, 14, 17])
        reading[1] = 3
        self.assertEqual(told, [0, 5, 1])
        told.append(9)
        self.assertEqual(talk_heard([0, 1, 11, 12, 14, 17], 3, 6, 2, 1), [0, 5, 1])
        nothing = talk_heard([], 0, 6, 2, 1)
        nothing.append(9)
        self.assertEqual(talk_heard([], 0, 6, 2, 1), [])


if __name__ == "__main__":
    unittest.main()
