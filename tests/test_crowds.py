"""Promises [19] and [20], and [2] and [3] as far as they speak of lists of rows."""

import math
import unittest
from itertools import combinations, islice, product

from bellwrite.boxes import box_count, box_of
from bellwrite.crowds import bell_rows, crowd, keeps_apart
from bellwrite.errors import TooMany
from bellwrite.messages import read, written
from listing import SIXTY_FIGURES, all_heard, frames_up_to, refusal_of, rows_of


def small_lists(turns, bells, rows_in_a_list):
    """All lists of so many rows, each row perhaps several times."""
    return [list(rows) for rows in product(rows_of(turns, bells), repeat=rows_in_a_list)]


def apart_by_listing(rows, late):
    possible = [all_heard(row, late) for row in rows]
    return all(one.isdisjoint(other) for one, other in combinations(possible, 2))


def pair_by_listing(rows, late):
    boxes = [box_of(row, late) for row in rows]
    for second in range(len(rows)):
        for first in range(second):
            if boxes[first] == boxes[second]:
                return first, second
    return None


class KeepsApart(unittest.TestCase):
    def test_just_where_no_two_can_be_heard_alike(self):
        for bells, many in ((1, 2), (1, 3), (2, 2), (2, 3), (3, 2)):
            for rows in small_lists(5, bells, many):
                for late in range(3):
                    self.assertIs(keeps_apart(rows, late), apart_by_listing(rows, late), (rows, late))

    def test_no_row_and_one_row(self):
        for late in (0, 3, SIXTY_FIGURES):
            self.assertIs(keeps_apart([], late), True)
            for row in ([], [0], [4, 9], list(range(60))):
                self.assertIs(keeps_apart([row], late), True)

    def test_two_equal_rows(self):
        self.assertIs(keeps_apart([[1, 4], [1, 4]], 0), False)
        self.assertIs(keeps_apart([[1, 4], [7, 9], [1, 4]], 0), False)
        row = [1, 4]
        self.assertIs(keeps_apart([row, row], 0), False)

    def test_rows_of_no_bells(self):
        self.assertIs(keeps_apart([[], []], 0), False)
        self.assertIs(keeps_apart([[], [], []], SIXTY_FIGURES), False)

    def test_alike_though_of_unlike_boxes(self):
        self.assertNotEqual(box_of([1], 1), box_of([2], 1))
        self.assertIs(keeps_apart([[1], [2]], 1), False)

    def test_any_two_places(self):
        far = [[20 * k, 20 * k + 3] for k in range(6)]
        self.assertIs(keeps_apart(far, 4), True)
        for one, other in product(range(6), repeat=2):
            if one != other:
                rows = [list(row) for row in far]
                rows[other] = [turn + 4 for turn in rows[one]]
                self.assertIs(keeps_apart(rows, 4), False)
                self.assertIs(keeps_apart(rows, 3), True)

    def test_apart_by_any_one_bell(self):
        row = [10 * k for k in range(60)]
        for place in range(60):
            other = list(row)
            other[place] += 5
            self.assertIs(keeps_apart([row, other], 4), True)
            self.assertIs(keeps_apart([row, other], 5), False)

    def test_six_hundred_rows_of_sixty_bells_of_sixty_figures(self):
        start = 10 ** 59
        rows = [[start + k for k in range(59)] + [2 * start + 5 * k] for k in range(600)]
        self.assertIs(keeps_apart(rows, 4), True)
        self.assertIs(keeps_apart(rows, 5), False)
        self.assertIs(keeps_apart(rows[:599] + [rows[0]], 4), False)

    def test_great_lateness(self):
        self.assertIs(keeps_apart([[0], [SIXTY_FIGURES]], SIXTY_FIGURES), False)
        self.assertIs(keeps_apart([[0], [SIXTY_FIGURES]], SIXTY_FIGURES - 1), True)

    def test_has_no_more_rows_than_the_count(self):
        for turns, bells, late in frames_up_to(5, 3, 2):
            count = box_count(turns, bells, late)
            for rows in islice(combinations(rows_of(turns, bells), count + 1), 2000):
                self.assertIs(keeps_apart(list(rows), late), False)

    def test_nothing_handed_is_changed(self):
        rows = [[5, 6], [0, 3], [5, 6]]
        keeps_apart(rows, 1)
        self.assertEqual(rows, [[5, 6], [0, 3], [5, 6]])


class Crowd(unittest.TestCase):
    def assert_crowd(self, rows, late, pair):
        told = crowd(rows, late)
        if pair is None:
            self.assertIsNone(told, (rows, late))
            return
        self.assertIs(type(told), tuple)
        first, second, reading = told
        self.assertEqual((first, second), pair, (rows, late))
        self.assertIs(type(reading), list)
        self.assertEqual(reading, sorted(reading))
        for row in (rows[first], rows[second]):
            self.assertEqual(len(reading), len(row))
            self.assertTrue(all(0 <= came - rung <= late for rung, came in zip(row, reading)), (rows, late))

    def test_all_short_lists_of_small_frames(self):
        for bells, many in ((1, 2), (1, 3), (1, 4), (2, 2), (2, 3), (3, 2)):
            for rows in small_lists(5, bells, many):
                for late in range(3):
                    self.assert_crowd(rows, late, pair_by_listing(rows, late))

    def test_the_reading_is_heard_of_both(self):
        for late in range(4):
            for one, other in product(rows_of(6, 3), repeat=2):
                told = crowd([one, other], late)
                if told is not None:
                    self.assertIn(tuple(told[2]), all_heard(one, late) & all_heard(other, late))

    def test_no_row_and_one_row(self):
        for late in (0, 3, SIXTY_FIGURES):
            self.assertIsNone(crowd([], late))
            for row in ([], [0], [4, 9]):
                self.assertIsNone(crowd([row], late))

    def test_two_equal_rows(self):
        self.assertEqual(crowd([[1, 4], [1, 4]], 0), (0, 1, [1, 4]))
        self.assert_crowd([[0, 9], [1, 4], [7, 9], [1, 4]], 0, (1, 3))

    def test_rows_of_no_bells(self):
        self.assertEqual(crowd([[], []], 0), (0, 1, []))
        self.assertEqual(crowd([[], [], []], SIXTY_FIGURES), (0, 1, []))

    def test_alike_though_of_unlike_boxes_is_no_crowd(self):
        self.assertIsNone(crowd([[1], [2]], 1))

    def test_second_is_the_least_for_which_there_is_a_first(self):
        # Boxes with the lateness 1: 0, 1, 2, 1, 0, 1.
        rows = [[0], [2], [4], [3], [1], [2]]
        self.assert_crowd(rows, 1, (1, 3))
        self.assert_crowd(rows[:3] + rows[4:], 1, (0, 3))
        self.assert_crowd(rows[1:3] + rows[4:], 1, (0, 3))

    def test_more_rows_than_boxes(self):
        for turns, bells, late in frames_up_to(5, 3, 3):
            count = box_count(turns, bells, late)
            for rows in islice(combinations(rows_of(turns, bells), count + 1), 2000):
                self.assert_crowd(list(rows), late, pair_by_listing(rows, late))
                self.assertIsNotNone(crowd(list(rows), late))
            apart = [written(message, turns, bells, late) for message in range(count)]
            self.assertIsNone(crowd(apart, late))
            for row in rows_of(turns, bells):
                one_more = apart + [row]
                self.assert_crowd(one_more, late, pair_by_listing(one_more, late))
                self.assertEqual(crowd(one_more, late)[1], count)

    def test_great_numbers(self):
        great = [10 ** 59 + 7 * k for k in range(60)]
        later = [turn + 5 for turn in great]
        late = SIXTY_FIGURES
        self.assert_crowd([great, later], late, (0, 1))
        self.assert_crowd([great, later], 0, None)
        self.assert_crowd([[0], [SIXTY_FIGURES]], SIXTY_FIGURES, (0, 1))
        self.assert_crowd([[0], [SIXTY_FIGURES]], SIXTY_FIGURES - 1, None)

    def test_six_hundred_rows(self):
        rows = [[3 * k] for k in range(599)]
        self.assert_crowd(rows, 2, None)
        self.assert_crowd(rows + [[3 * 17 + 2]], 2, (17, 599))

    def test_nothing_handed_is_changed_or_kept(self):
        rows = [[5, 6], [0, 3], [5, 6]]
        told = crowd(rows, 0)
        self.assertEqual(rows, [[5, 6], [0, 3], [5, 6]])
        rows[0].append(50)
        rows[2][0] = 1
        rows.pop()
        self.assertEqual(told, (0, 2, [5, 6]))
        told[2].clear()
        self.assertEqual(rows, [[5, 6, 50], [0, 3]])
        same = [4, 7]
        crowd([same, same], 0)[2].append(8)
        self.assertEqual(same, [4, 7])


class BellRows(unittest.TestCase):
    def assert_refused(self, turns, bells, late):
        self.assertIs(refusal_of(bell_rows, turns, bells, late), TooMany, (turns, bells, late))

    def test_examples(self):
        self.assertEqual(bell_rows(6, 2, 1), [[0, 1], [0, 3], [2, 3], [0, 5], [2, 5], [4, 5]])
        self.assertEqual(bell_rows(7, 1, 2), [[0], [3], [6]])

    def test_all_that_are_written_in_their_order(self):
        for turns, bells, late in frames_up_to(8, 5, 3):
            rows = bell_rows(turns, bells, late)
            self.assertIs(type(rows), list)
            self.assertEqual(len(rows), box_count(turns, bells, late))
            for message, row in enumerate(rows):
                self.assertEqual(row, written(message, turns, bells, late))
                self.assertEqual(read(row, turns, bells, late), message)

    def test_keep_apart(self):
        for turns, bells, late in frames_up_to(6, 3, 3):
            rows = bell_rows(turns, bells, late)
            self.assertIs(keeps_apart(rows, late), True)
            self.assertTrue(apart_by_listing(rows, late))
            self.assertIsNone(crowd(rows, late))

    def test_no_bells_and_no_turns(self):
        for late in (0, 2, SIXTY_FIGURES):
            self.assertEqual(bell_rows(0, 0, late), [[]])
            self.assertEqual(bell_rows(SIXTY_FIGURES, 0, late), [[]])
            self.assertEqual(bell_rows(0, 1, late), [])

    def test_as_many_bells_as_turns_and_one_more(self):
        for bells in (1, 2, 60):
            for late in (0, 3, SIXTY_FIGURES):
                self.assertEqual(bell_rows(bells, bells, late), [list(range(bells))])
                self.assertEqual(bell_rows(bells - 1, bells, late), [])

    def test_just_two_hundred_and_one_more(self):
        for late in (0, 1, 6, 10 ** 30, SIXTY_FIGURES):
            turns = 199 * (late + 1) + 1
            self.assertEqual(bell_rows(turns, 1, late), [[k * (late + 1)] for k in range(200)])
            self.assertEqual(len(bell_rows(turns + late, 1, late)), 200)
            self.assert_refused(turns + late + 1, 1, late)

    def test_more_than_two_hundred(self):
        self.assertEqual(math.comb(20, 2), 190)
        self.assertEqual(len(bell_rows(20, 2, 0)), 190)
        self.assert_refused(21, 2, 0)
        self.assert_refused(SIXTY_FIGURES, 60, 0)
        self.assert_refused(SIXTY_FIGURES, 60, 10 ** 30)
        self.assertEqual(len(bell_rows(61, 60, 0)), 61)
        self.assert_refused(62, 60, 0)
        self.assertEqual(bell_rows(SIXTY_FIGURES, 60, SIXTY_FIGURES), [list(range(60))])

    def test_each_list_is_a_new_one(self):
        for frame in ((0, 0, 0), (6, 2, 1), (1, 2, 0)):
            rows = bell_rows(*frame)
            told = [list(row) for row in rows]
            for row in rows:
                row.append(70)
            rows.append([1])
            self.assertEqual(bell_rows(*frame), told)


if __name__ == "__main__":
    unittest.main()
