"""Promise [4], the whole of it: all messages are read again, and there are no more."""

import unittest
from itertools import combinations, product

from bellwrite.boxes import box_count
from bellwrite.crowds import bell_rows, crowd, keeps_apart
from bellwrite.hearers import Hearer, KeenHearer
from bellwrite.lags import keyed, keyed_count, unkeyed
from bellwrite.messages import read, written
from bellwrite.openly import open_count, read_openly, written_openly
from bellwrite.ropes import belfry_count, peal_crowd, peal_read, peal_written, peals_alike
from bellwrite.rows import can_come, heard
from bellwrite.talks import rung, talk_heard
from listing import (SIXTY_FIGURES, all_heard, all_peals_heard, frames_up_to, peals_of, rows_of, rows_up_to,
                     small_belfries, talk_frames_up_to, talks_of)


def lists_of_more_than(rows, count):
    """Lists of one row more than the count: all of them where they are few, else some from all over."""
    some = list(combinations(rows[:10], count + 1)) if count < 6 else []
    for shift in range(len(rows)):
        shifted = rows[shift:] + rows[:shift]
        some.append(shifted[:count + 1])
        some.append(shifted[::-1][:count + 1])
    return [list(chosen) for chosen in some if len(chosen) == count + 1]


def told_by(hearer, reading, turns):
    """All messages that a hearer tells, each with the turn in which it does so."""
    return [(turn, message) for turn in range(turns) for message in hearer.turn(reading.count(turn))]


def first_clear_turn(reading, readings):
    """The first turn at whose end what was heard begins the readings of one message alone."""
    for turn in range(reading[-1] + 1):
        heard_of_it = [heard for heard in reading if heard <= turn]
        possible = {message for message, other in readings if [heard for heard in other if heard <= turn] == heard_of_it}
        if len(possible) == 1:
            return turn


class Whole(unittest.TestCase):
    def assert_crowded(self, rows, late):
        told = crowd(rows, late)
        self.assertIsNotNone(told, (rows, late))
        first, second, reading = told
        self.assertLess(first, second)
        self.assertTrue(can_come(rows[first], reading, late))
        self.assertTrue(can_come(rows[second], reading, late))
        self.assertFalse(keeps_apart(rows, late))

    def test_whatever_the_road_makes_of_a_message_is_read_as_it(self):
        for turns, bells, late in frames_up_to(6, 4, 3):
            for message in range(box_count(turns, bells, late)):
                row = written(message, turns, bells, late)
                for delays in product(range(late + 1), repeat=bells):
                    self.assertEqual(read(heard(row, list(delays)), turns, bells, late), message)

    def test_whatever_the_road_makes_of_an_open_message_is_read_as_it(self):
        for turns, most, late in frames_up_to(5, 5, 2):
            for message in range(open_count(turns, most, late)):
                row = written_openly(message, turns, most, late)
                for delays in product(range(late + 1), repeat=len(row)):
                    self.assertEqual(read_openly(heard(row, list(delays)), turns, most, late), message)

    def test_whatever_the_road_makes_of_a_talk_is_heard_as_it(self):
        for turns, bells, late in talk_frames_up_to(4, 2, 2):
            many = 3 if bells == 1 else 2
            for talk in talks_of(box_count(turns, bells, late), many):
                row = rung(talk, turns, bells, late)
                for delays in product(range(late + 1), repeat=len(row)):
                    reading = heard(row, list(delays))
                    self.assertEqual(talk_heard(reading, many, turns, bells, late), talk)
                    for make in (Hearer, KeenHearer):
                        told = told_by(make(turns, bells, late), reading, many * (turns + late))
                        self.assertEqual([message for _, message in told], talk)

    def test_whatever_the_roads_make_of_a_peal_is_read_as_its_message(self):
        for frames in small_belfries():
            for message in range(belfry_count(frames)):
                for readings in all_peals_heard(peal_written(message, frames), frames):
                    self.assertEqual(peal_read(readings, frames), message)

    def test_whatever_the_lag_is_keyed_rows_are_read(self):
        for turns, bells, late in frames_up_to(7, 4, 2):
            for message in range(keyed_count(turns, bells, late)):
                row = keyed(message, turns, bells, late)
                for delays in product(range(late + 1), repeat=bells):
                    for lag in (0, 1, 2, 3, 11, SIXTY_FIGURES):
                        reading = [turn + lag for turn in heard(row, list(delays))]
                        self.assertEqual(unkeyed(reading, turns, bells, late), message)

    def test_a_keen_hearer_tells_a_message_as_soon_as_no_other_one_is_possible(self):
        for turns, bells, late in talk_frames_up_to(6, 3, 2):
            readings = [(message, list(reading)) for message in range(box_count(turns, bells, late))
                        for reading in all_heard(written(message, turns, bells, late), late)]
            for message, reading in readings:
                told = told_by(KeenHearer(turns, bells, late), reading, turns + late)
                self.assertEqual(told, [(first_clear_turn(reading, readings), message)])

    def test_no_way_of_writing_has_more_messages(self):
        for turns, bells, late in frames_up_to(6, 4, 3):
            for rows in lists_of_more_than(rows_of(turns, bells), box_count(turns, bells, late)):
                self.assert_crowded(rows, late)

    def test_no_open_way_of_writing_has_more_messages(self):
        for turns, most, late in frames_up_to(5, 4, 3):
            for rows in lists_of_more_than(rows_up_to(turns, most), open_count(turns, most, late)):
                self.assert_crowded(rows, late)

    def test_no_way_of_ringing_several_ropes_has_more_messages(self):
        for frames in small_belfries():
            for peals in lists_of_more_than(peals_of(frames), belfry_count(frames)):
                told = peal_crowd(peals, frames)
                self.assertIsNotNone(told, (peals, frames))
                first, second, readings = told
                self.assertLess(first, second)
                self.assertIs(peals_alike(peals[first], peals[second], frames), True)
                for peal in (peals[first], peals[second]):
                    for row, reading, (_, _, late) in zip(peal, readings, frames):
                        self.assertTrue(can_come(row, reading, late))

    def test_one_row_more_than_the_bell_rows_makes_a_crowd(self):
        for turns, bells, late in frames_up_to(6, 4, 3):
            rows = bell_rows(turns, bells, late)
            self.assertIsNone(crowd(rows, late))
            for row in rows_of(turns, bells):
                self.assert_crowded(rows + [row], late)


if __name__ == "__main__":
    unittest.main()
