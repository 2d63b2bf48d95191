"""Promises [15] to [18], and [2] and [3] as far as they speak of messages."""

import math
import unittest

from bellwrite.boxes import bell_row, box_count, box_of
from bellwrite.errors import NoReading, TooGreat
from bellwrite.messages import box_number, box_of_message, read, written
from bellwrite.rows import heard
from listing import SIXTY_FIGURES, all_heard, boxes_of, frames_up_to, readings_up_to, refusal_of, rows_of

GREAT_MESSAGES = (SIXTY_FIGURES, 10 ** 999, 2 ** 4096, 10 ** 2500 + 1, 3 ** 6000, 10 ** 3999, 10 ** 4000 - 1)


class BoxNumber(unittest.TestCase):
    def test_examples(self):
        self.assertEqual(box_number([7]), 7)
        self.assertEqual(box_number([0, 0, 0]), 0)
        self.assertEqual(box_number([0, 0, 1]), 1)
        self.assertEqual(box_number([0, 1, 1]), 2)
        self.assertEqual(box_number([1, 1, 1]), 3)
        self.assertEqual(box_number([0, 0, 2]), 4)
        self.assertEqual(box_number([2, 3, 5]), 2 + 6 + 35)

    def test_no_bells(self):
        self.assertEqual(box_number([]), 0)
        self.assertIs(type(box_number([])), int)

    def test_the_sum_of_choices(self):
        for bells in range(5):
            for box in boxes_of(6, bells):
                choices = [math.comb(part + place, place + 1) for place, part in enumerate(box)]
                self.assertEqual(box_number(box), sum(choices))

    def test_each_number_is_that_of_one_box(self):
        for bells in range(1, 5):
            numbers = sorted(box_number(box) for box in boxes_of(7, bells))
            self.assertEqual(numbers, list(range(len(numbers))))

    def test_the_boxes_of_a_frame_have_the_numbers_below_their_count(self):
        for turns, bells, late in frames_up_to(7, 4, 3):
            boxes = {tuple(box_of(row, late)) for row in rows_of(turns, bells)}
            numbers = sorted(box_number(list(box)) for box in boxes)
            self.assertEqual(numbers, list(range(box_count(turns, bells, late))))

    def test_great_boxes(self):
        self.assertTrue(box_number([SIXTY_FIGURES]) == SIXTY_FIGURES)
        for bells in range(1, 61):
            self.assertEqual(box_number([0] * bells), 0)
            self.assertEqual(box_number([0] * (bells - 1) + [1]), 1)
            # The greatest box of those whose parts are at most some number has the last number among them.
            last = math.comb(SIXTY_FIGURES + bells, bells) - 1
            self.assertTrue(box_number([SIXTY_FIGURES] * bells) == last, bells)

    def test_nothing_handed_is_changed(self):
        box = [0, 2, 2]
        box_number(box)
        self.assertEqual(box, [0, 2, 2])


class BoxOfAMessage(unittest.TestCase):
    def assert_refused(self, message, bells):
        # Not the words of assertIs alone: the message may have thousands of figures.
        self.assertIs(refusal_of(box_of_message, message, bells), TooGreat, bells)

    def test_examples(self):
        self.assertEqual(box_of_message(0, 0), [])
        self.assertEqual(box_of_message(7, 1), [7])
        self.assertEqual(box_of_message(43, 3), [2, 3, 5])
        self.assertEqual([box_of_message(k, 2) for k in range(6)], [[0, 0], [0, 1], [1, 1], [0, 2], [1, 2], [2, 2]])

    def test_the_box_that_has_the_number(self):
        for bells in range(5):
            for box in boxes_of(7, bells):
                told = box_of_message(box_number(box), bells)
                self.assertIs(type(told), list)
                self.assertEqual(told, box)

    def assert_box_of(self, message, bells):
        box = box_of_message(message, bells)
        self.assertEqual(len(box), bells)
        self.assertTrue(box[0] >= 0)
        self.assertTrue(all(before <= part for before, part in zip(box, box[1:])), bells)
        self.assertTrue(box_number(box) == message, bells)

    def test_messages_of_some_thousand_figures(self):
        for bells in (1, 2, 3, 7, 30, 59, 60):
            for message in GREAT_MESSAGES:
                self.assert_box_of(message, bells)

    def test_at_the_choices_and_beside_them(self):
        for bells in range(1, 61):
            for n in (bells, bells + 1, 99, 10 ** 20):
                message = math.comb(n, bells)
                self.assert_box_of(message - 1, bells)
                self.assert_box_of(message, bells)
                self.assert_box_of(message + 1, bells)
        self.assertEqual(box_of_message(math.comb(99, 60), 60), [0] * 59 + [40])
        self.assertEqual(box_of_message(math.comb(99, 60) - 1, 60), [39] * 60)

    def test_nought_and_one(self):
        for bells in range(1, 61):
            self.assertEqual(box_of_message(0, bells), [0] * bells)
            self.assertEqual(box_of_message(1, bells), [0] * (bells - 1) + [1])

    def test_below_nought(self):
        for bells in (0, 1, 2, 60):
            for message in (-1, -2, -SIXTY_FIGURES, -10 ** 3999):
                self.assert_refused(message, bells)

    def test_not_nought_where_there_are_no_bells(self):
        for message in (1, 2, SIXTY_FIGURES, 10 ** 3999):
            self.assert_refused(message, 0)

    def test_each_box_is_a_new_list(self):
        for message, bells in ((0, 0), (0, 3), (5, 3)):
            box = box_of_message(message, bells)
            told = list(box)
            box.append(9)
            self.assertEqual(box_of_message(message, bells), told)


class Written(unittest.TestCase):
    def assert_refused(self, message, turns, bells, late):
        self.assertIs(refusal_of(written, message, turns, bells, late), TooGreat, (turns, bells, late))

    def test_examples(self):
        self.assertEqual([written(k, 6, 2, 1) for k in range(6)], [[0, 1], [0, 3], [2, 3], [0, 5], [2, 5], [4, 5]])
        self.assertEqual(written(43, 8, 3, 0), [2, 4, 7])

    def test_the_bell_row_of_its_box_in_the_frame(self):
        for turns, bells, late in frames_up_to(7, 4, 3):
            rows = rows_of(turns, bells)
            for message in range(box_count(turns, bells, late)):
                row = written(message, turns, bells, late)
                self.assertIs(type(row), list)
                self.assertIn(row, rows)
                self.assertEqual(row, bell_row(box_of_message(message, bells), late))

    def test_at_the_count_and_beside_it(self):
        for turns, bells, late in frames_up_to(7, 8, 3):
            count = box_count(turns, bells, late)
            self.assert_refused(-1, turns, bells, late)
            self.assert_refused(count, turns, bells, late)
            self.assert_refused(count + 1, turns, bells, late)
            if count > 0:
                self.assertEqual(written(0, turns, bells, late), list(range(bells)))
                # The last one: each bell in the last part, as all earlier boxes have the lesser numbers.
                last = (turns - bells) // (late + 1) * (late + 1)
                self.assertEqual(written(count - 1, turns, bells, late), list(range(last, last + bells)))

    def test_no_bells(self):
        for turns in (0, 1, SIXTY_FIGURES):
            for late in (0, SIXTY_FIGURES):
                self.assertEqual(written(0, turns, 0, late), [])
                self.assert_refused(1, turns, 0, late)
                self.assert_refused(-1, turns, 0, late)
                self.assert_refused(10 ** 3999, turns, 0, late)

    def test_as_many_bells_as_turns_and_one_more(self):
        for bells in (1, 2, 59, 60):
            for late in (0, 1, SIXTY_FIGURES):
                self.assertEqual(written(0, bells, bells, late), list(range(bells)))
                self.assert_refused(1, bells, bells, late)
                self.assert_refused(0, bells - 1, bells, late)

    def test_great_frames_at_the_count_and_beside_it(self):
        for bells in (1, 2, 7, 60):
            for late in (0, 5, 10 ** 30):
                count = box_count(SIXTY_FIGURES, bells, late)
                last = (SIXTY_FIGURES - bells) // (late + 1) * (late + 1)
                row = written(count - 1, SIXTY_FIGURES, bells, late)
                self.assertEqual(row, list(range(last, last + bells)))
                self.assertEqual(written(0, SIXTY_FIGURES, bells, late), list(range(bells)))
                self.assert_refused(count, SIXTY_FIGURES, bells, late)
                self.assert_refused(count + 1, SIXTY_FIGURES, bells, late)
                self.assert_refused(-count, SIXTY_FIGURES, bells, late)

    def test_great_lateness(self):
        self.assertEqual(written(0, SIXTY_FIGURES, 2, SIXTY_FIGURES), [0, 1])
        self.assert_refused(1, SIXTY_FIGURES, 2, SIXTY_FIGURES)
        self.assertEqual(written(1, SIXTY_FIGURES, 1, SIXTY_FIGURES - 2), [SIXTY_FIGURES - 1])

    def test_each_row_is_a_new_list(self):
        for frame in ((0, 0, 0), (6, 2, 0), (6, 2, 1)):
            row = written(0, *frame)
            told = list(row)
            row.append(9)
            self.assertEqual(written(0, *frame), told)


class Read(unittest.TestCase):
    def assert_refused(self, reading, turns, bells, late):
        self.assertIs(refusal_of(read, reading, turns, bells, late), NoReading, (reading, turns, bells, late))

    def test_all_readings_of_small_frames(self):
        for turns, bells, late in frames_up_to(6, 3, 3):
            messages = {}
            for message in range(box_count(turns, bells, late)):
                for reading in all_heard(written(message, turns, bells, late), late):
                    self.assertNotIn(reading, messages)
                    messages[reading] = message
            for reading in readings_up_to(turns + late + 2, bells + 1):
                if tuple(reading) in messages:
                    told = read(reading, turns, bells, late)
                    self.assertIs(type(told), int)
                    self.assertEqual(told, messages[tuple(reading)])
                else:
                    self.assert_refused(reading, turns, bells, late)

    def test_bells_that_have_overtaken_one_another(self):
        row = written(1, 9, 3, 3)
        self.assertEqual(row, [0, 1, 6])
        for delays, reading in (([3, 1, 2], [2, 3, 8]), ([3, 0, 0], [1, 3, 6]), ([1, 0, 3], [1, 1, 9])):
            self.assertEqual(heard(row, delays), reading)
            self.assertEqual(read(reading, 9, 3, 3), 1)

    def test_no_bells(self):
        for turns in (0, 1, SIXTY_FIGURES):
            for late in (0, SIXTY_FIGURES):
                self.assertEqual(read([], turns, 0, late), 0)
                self.assert_refused([0], turns, 0, late)
                self.assert_refused([], turns, 1, late)

    def test_fewer_or_more_numbers_than_bells(self):
        self.assertEqual(read([0, 3], 6, 2, 1), 1)
        for reading in ([], [0], [3], [0, 3, 4], [0, 3, 5], [0, 1, 2]):
            self.assert_refused(reading, 6, 2, 1)

    def test_more_bells_than_turns(self):
        for bells in range(1, 61):
            self.assert_refused(list(range(bells)), bells - 1, bells, 0)
            self.assert_refused(list(range(bells)), bells - 1, bells, SIXTY_FIGURES)
            self.assertEqual(read(list(range(bells)), bells, bells, 0), 0)

    def test_no_box_is_heard(self):
        for reading in ([0, 0], [4, 4], [2, 2]):
            self.assert_refused(reading, 6, 2, 1)

    def test_a_number_no_less_than_the_count(self):
        self.assertEqual(read([5, 6], 6, 2, 1), 5)
        for reading in ([0, 7], [6, 7], [5, 7], [5, SIXTY_FIGURES]):
            self.assert_refused(reading, 6, 2, 1)

    def test_great_frames_at_the_count_and_beside_it(self):
        for bells in (1, 2, 7, 60):
            for late in (0, 5, 10 ** 30):
                count = box_count(SIXTY_FIGURES, bells, late)
                for message in (0, 1, count // 3, count // 2, count - 2, count - 1):
                    row = written(message, SIXTY_FIGURES, bells, late)
                    latest = [turn + late for turn in row]
                    crosswise = sorted(turn + (late if place % 2 == 0 else 0) for place, turn in enumerate(row))
                    for reading in (row, latest, crosswise):
                        self.assertTrue(read(reading, SIXTY_FIGURES, bells, late) == message, (bells, late))
                beyond = bell_row(box_of_message(count, bells), late)
                self.assert_refused(beyond, SIXTY_FIGURES, bells, late)

    def test_great_lateness(self):
        self.assertEqual(read([7, SIXTY_FIGURES], SIXTY_FIGURES, 2, SIXTY_FIGURES), 0)
        self.assertEqual(read([SIXTY_FIGURES, SIXTY_FIGURES + 1], 2, 2, SIXTY_FIGURES), 0)
        self.assert_refused([0, SIXTY_FIGURES + 2], SIXTY_FIGURES, 2, SIXTY_FIGURES)
        self.assert_refused([0, 0], SIXTY_FIGURES, 2, SIXTY_FIGURES)

    def test_nothing_handed_is_changed(self):
        reading = [3, 3]
        read(reading, 6, 2, 1)
        self.assertEqual(reading, [3, 3])
        reading[1] = 5
        self.assertEqual(read([3, 3], 6, 2, 1), 2)


if __name__ == "__main__":
    unittest.main()
