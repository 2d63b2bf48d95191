"""Promises [11] to [14], and [2] and [3] as far as they speak of boxes."""

import math
import unittest

from bellwrite.boxes import bell_row, box_count, box_of, heard_box
from bellwrite.errors import NoReading
from bellwrite.rows import row_of
from listing import (
    SIXTY_FIGURES, all_heard, boxes_of, frames_up_to, readings_up_to, refusal_of, rows_of, rows_up_to,
)


class BoxOfARow(unittest.TestCase):
    def test_examples(self):
        self.assertEqual(box_of([0, 3, 7], 1), [0, 1, 2])
        self.assertEqual(box_of([2, 3, 8], 2), [0, 0, 2])
        self.assertEqual(box_of([5, 6, 7], 1), [2, 2, 2])
        self.assertEqual(box_of([0, 9], 3), [0, 2])

    def test_each_part_is_the_number_less_its_place_divided(self):
        for row in rows_up_to(7, 4):
            for late in range(5):
                box = box_of(row, late)
                self.assertIs(type(box), list)
                self.assertEqual(len(box), len(row))
                for place, part in enumerate(box):
                    self.assertIs(type(part), int)
                    over = row[place] - place - part * (late + 1)
                    self.assertIn(over, range(late + 1), (row, late))

    def test_is_a_box(self):
        for row in rows_up_to(8, 4):
            for late in range(5):
                box = box_of(row, late)
                self.assertEqual(box, sorted(box))
                self.assertTrue(all(part >= 0 for part in box))

    def test_two_rows_of_one_box_are_alike(self):
        for bells in range(4):
            for late in range(4):
                rows = rows_of(6, bells)
                possible = [all_heard(row, late) for row in rows]
                for one, heard_of_one in zip(rows, possible):
                    for other, heard_of_other in zip(rows, possible):
                        if box_of(one, late) == box_of(other, late):
                            self.assertTrue(heard_of_one & heard_of_other, (one, other, late))

    def test_no_bells(self):
        for late in (0, 1, 5, SIXTY_FIGURES):
            self.assertEqual(box_of([], late), [])

    def test_no_lateness(self):
        self.assertEqual(box_of([0, 1, 2, 3], 0), [0, 0, 0, 0])
        self.assertEqual(box_of([1, 4, 5, 9], 0), [1, 3, 3, 6])

    def test_great_lateness(self):
        self.assertEqual(box_of([0, 7, SIXTY_FIGURES], SIXTY_FIGURES), [0, 0, 0])
        self.assertEqual(box_of([SIXTY_FIGURES], SIXTY_FIGURES - 1), [1])
        self.assertEqual(box_of([0, SIXTY_FIGURES], SIXTY_FIGURES - 1), [0, 0])
        self.assertEqual(box_of([0, SIXTY_FIGURES], SIXTY_FIGURES - 2), [0, 1])

    def test_numbers_of_sixty_figures(self):
        self.assertEqual(box_of([10 ** 59, 10 ** 59 + 1, SIXTY_FIGURES], 9), [10 ** 58, 10 ** 58, 10 ** 59 - 1])

    def test_sixty_bells(self):
        self.assertEqual(box_of([4 * k + 3 for k in range(60)], 2), [k + 1 for k in range(60)])

    def test_nothing_handed_is_changed_or_kept(self):
        for late in (0, 2):
            row = [0, 3, 7]
            box = box_of(row, late)
            told = list(box)
            self.assertEqual(row, [0, 3, 7])
            row[0] = 50
            self.assertEqual(box, told)
            box.append(99)
            self.assertEqual(row, [50, 3, 7])
            self.assertEqual(box_of([0, 3, 7], late), told)

    def test_each_box_of_no_bells_is_a_new_list(self):
        box_of([], 0).append(1)
        self.assertEqual(box_of([], 0), [])


class BellRow(unittest.TestCase):
    def test_examples(self):
        self.assertEqual(bell_row([0, 1, 2], 1), [0, 3, 6])
        self.assertEqual(bell_row([0, 0, 2], 2), [0, 1, 8])
        self.assertEqual(bell_row([2, 2, 2], 0), [2, 3, 4])

    def test_is_a_row_whose_box_it_is(self):
        for bells in range(5):
            for box in boxes_of(5, bells):
                for late in range(5):
                    row = bell_row(box, late)
                    self.assertIs(type(row), list)
                    self.assertEqual(row_of(10 ** 3, row), row)
                    self.assertEqual(box_of(row, late), box)

    def test_is_the_earliest_row_of_its_box(self):
        for bells in range(4):
            for late in range(4):
                for row in rows_of(7, bells):
                    earliest = bell_row(box_of(row, late), late)
                    self.assertTrue(all(rung <= turn for rung, turn in zip(earliest, row)), (row, late))

    def test_no_bells(self):
        for late in (0, 3, SIXTY_FIGURES):
            self.assertEqual(bell_row([], late), [])

    def test_no_lateness(self):
        self.assertEqual(bell_row([0, 0, 4, 4], 0), [0, 1, 6, 7])

    def test_great_numbers(self):
        self.assertEqual(bell_row([0, 0, 1], SIXTY_FIGURES), [0, 1, 10 ** 60 + 2])
        self.assertEqual(bell_row([SIXTY_FIGURES] * 2, 1), [2 * SIXTY_FIGURES, 2 * SIXTY_FIGURES + 1])
        self.assertEqual(bell_row([SIXTY_FIGURES], SIXTY_FIGURES), [SIXTY_FIGURES * 10 ** 60])

    def test_sixty_bells(self):
        self.assertEqual(bell_row([0] * 60, 7), list(range(60)))
        self.assertEqual(bell_row(list(range(60)), 2), [4 * k for k in range(60)])

    def test_nothing_handed_is_changed_or_kept(self):
        for late in (0, 1):
            box = [0, 1, 2]
            row = bell_row(box, late)
            told = list(row)
            self.assertEqual(box, [0, 1, 2])
            box.clear()
            self.assertEqual(row, told)
            row.append(99)
            self.assertEqual(box, [])
            self.assertEqual(bell_row([0, 1, 2], late), told)
        bell_row([], 0).append(1)
        self.assertEqual(bell_row([], 0), [])


class HeardBox(unittest.TestCase):
    def assert_refused(self, reading, late):
        self.assertIs(refusal_of(heard_box, reading, late), NoReading, (reading, late))

    def test_just_the_box_whose_bell_row_the_reading_can_come_of(self):
        readings = readings_up_to(7, 3)
        for late in range(4):
            boxes_by_reading = {tuple(reading): [] for reading in readings}
            for bells in range(4):
                for box in boxes_of(7, bells):
                    for reading in all_heard(bell_row(box, late), late):
                        boxes_by_reading.get(reading, []).append(box)
            for reading in readings:
                boxes = boxes_by_reading[tuple(reading)]
                self.assertLessEqual(len(boxes), 1)
                if boxes:
                    self.assertEqual(heard_box(reading, late), boxes[0], (reading, late))
                else:
                    self.assert_refused(reading, late)

    def test_no_bells(self):
        for late in (0, 4, SIXTY_FIGURES):
            self.assertEqual(heard_box([], late), [])

    def test_bells_that_have_overtaken_one_another(self):
        # [0, 1, 2] with delays 3, 2, 1 and 3, 0, 0; [0, 1, 6] with delays 3, 1, 0.
        self.assertEqual(heard_box([3, 3, 3], 3), [0, 0, 0])
        self.assertEqual(heard_box([1, 2, 3], 3), [0, 0, 0])
        self.assertEqual(heard_box([2, 3, 6], 3), [0, 0, 1])

    def test_a_number_ahead_of_every_part(self):
        for late in (0, 1, 5, SIXTY_FIGURES):
            self.assert_refused([0, 0], late)
            self.assert_refused([0, 1, 1], late)
            self.assert_refused([1, 1, 1], late)
            self.assert_refused(list(range(59)) + [58], late)

    def test_parts_that_fall(self):
        self.assert_refused([4, 4], 0)
        self.assert_refused([4, 4], 3)
        self.assert_refused([6, 6], 2)
        self.assert_refused([0, 5, 5], 1)
        self.assert_refused([0, 8, 8, 8], 2)
        self.assert_refused([SIXTY_FIGURES, SIXTY_FIGURES], SIXTY_FIGURES - 1)
        self.assertEqual(heard_box([4, 5], 3), [1, 1])
        self.assertEqual(heard_box([5, 5], 3), [1, 1])
        self.assertEqual(heard_box([7, 7], 2), [2, 2])

    def test_great_numbers(self):
        self.assertEqual(heard_box([SIXTY_FIGURES, SIXTY_FIGURES], SIXTY_FIGURES), [0, 0])
        self.assertEqual(heard_box([10 ** 60, 10 ** 60 + 1], SIXTY_FIGURES), [1, 1])
        self.assert_refused([10 ** 60, 10 ** 60], SIXTY_FIGURES)
        self.assertEqual(heard_box([10 ** 59, SIXTY_FIGURES], 0), [10 ** 59, SIXTY_FIGURES - 1])

    def test_sixty_bells(self):
        box = [k * k for k in range(60)]
        row = bell_row(box, 6)
        self.assertEqual(heard_box(row, 6), box)
        self.assertEqual(heard_box([turn + 6 for turn in row], 6), box)

    def test_nothing_handed_is_changed_or_kept(self):
        for late in (0, 1):
            reading = [0, 3, 7]
            box = heard_box(reading, late)
            told = list(box)
            self.assertEqual(reading, [0, 3, 7])
            reading[2] = 50
            self.assertEqual(box, told)
            box.append(99)
            self.assertEqual(reading, [0, 3, 50])
            self.assertEqual(heard_box([0, 3, 7], late), told)
        heard_box([], 0).append(1)
        self.assertEqual(heard_box([], 0), [])


class BoxCount(unittest.TestCase):
    def test_as_many_as_the_boxes_of_all_rows(self):
        for turns, bells, late in frames_up_to(8, 5, 4):
            boxes = {tuple(box_of(row, late)) for row in rows_of(turns, bells)}
            self.assertEqual(box_count(turns, bells, late), len(boxes), (turns, bells, late))

    def test_the_bell_row_of_each_is_a_row_of_the_frame(self):
        for turns, bells, late in frames_up_to(7, 4, 4):
            rows = rows_of(turns, bells)
            for row in rows:
                self.assertIn(bell_row(box_of(row, late), late), rows)

    def test_examples(self):
        self.assertEqual(box_count(10, 3, 1), math.comb(6, 3))
        self.assertEqual(box_count(10, 3, 0), math.comb(10, 3))
        self.assertEqual(box_count(11, 3, 1), math.comb(7, 3))
        self.assertEqual(box_count(5, 1, 4), 1)
        self.assertEqual(box_count(6, 1, 4), 2)

    def test_no_bells_and_no_turns(self):
        for late in (0, 1, SIXTY_FIGURES):
            self.assertEqual(box_count(0, 0, late), 1)
            self.assertEqual(box_count(9, 0, late), 1)
            self.assertEqual(box_count(SIXTY_FIGURES, 0, late), 1)
            for bells in (1, 2, 60):
                self.assertEqual(box_count(0, bells, late), 0)

    def test_as_many_bells_as_turns_and_one_more(self):
        for bells in range(61):
            for late in (0, 1, 2, 60, SIXTY_FIGURES):
                self.assertEqual(box_count(bells, bells, late), 1)
                self.assertEqual(box_count(bells, bells + 1, late), 0)

    def test_great_numbers(self):
        for bells in range(61):
            self.assertEqual(box_count(SIXTY_FIGURES, bells, 0), math.comb(SIXTY_FIGURES, bells))
            self.assertEqual(box_count(SIXTY_FIGURES, bells, SIXTY_FIGURES), 1)
            parts = (SIXTY_FIGURES - bells) // 1000
            self.assertEqual(box_count(SIXTY_FIGURES, bells, 999), math.comb(parts + bells, bells))
        self.assertEqual(box_count(SIXTY_FIGURES, 1, SIXTY_FIGURES - 2), 2)
        self.assertEqual(box_count(SIXTY_FIGURES, 2, SIXTY_FIGURES - 2), 1)
        self.assertEqual(box_count(SIXTY_FIGURES, 2, SIXTY_FIGURES - 3), 3)

    def test_tells_whole_numbers(self):
        for turns, bells, late in frames_up_to(3, 4, 1):
            self.assertIs(type(box_count(turns, bells, late)), int)


if __name__ == "__main__":
    unittest.main()
