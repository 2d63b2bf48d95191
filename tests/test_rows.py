"""Promises [7] to [10], and [2] and [3] as far as they speak of rows and readings."""

import unittest
from itertools import combinations, product

from bellwrite.errors import BellError, NoRow
from bellwrite.rows import alike, can_come, heard, reading_of_both, row_of
from listing import all_heard, readings_up_to, rows_of, rows_up_to

GREAT = 10 ** 59


class Rows(unittest.TestCase):
    def assert_refused(self, turns, bells):
        handed = list(bells)
        with self.assertRaises(BellError) as refusal:
            row_of(turns, handed)
        self.assertIs(type(refusal.exception), NoRow)
        self.assertEqual(handed, bells)

    def test_rows_of_a_frame(self):
        for turns, bells in ((8, [0, 3, 7]), (1, [0]), (5, [4]), (5, [0, 1, 2, 3, 4]), (10, [2, 3])):
            self.assertEqual(row_of(turns, bells), bells)

    def test_no_bells(self):
        self.assertEqual(row_of(0, []), [])
        self.assertEqual(row_of(7, []), [])

    def test_no_turns(self):
        for bells in ([0], [-1], [1], [0, 1]):
            self.assert_refused(0, bells)

    def test_not_greater_than_the_one_before(self):
        for bells in ([3, 3], [4, 3], [0, 5, 5], [0, 5, 2, 7], [0, 1, 2, 0], [0, 0]):
            self.assert_refused(8, bells)

    def test_below_nought(self):
        for bells in ([-1], [-1, 0], [-5, -4, 3], [-GREAT], [2, -1]):
            self.assert_refused(8, bells)

    def test_no_less_than_the_turns(self):
        for bells in ([8], [9], [0, 8], [0, 3, GREAT], [7, 8]):
            self.assert_refused(8, bells)

    def test_every_short_list(self):
        for turns in range(5):
            rows = rows_up_to(turns, 3)
            for many in range(4):
                for bells in product(range(-2, 6), repeat=many):
                    if list(bells) in rows:
                        self.assertEqual(row_of(turns, list(bells)), list(bells))
                    else:
                        self.assert_refused(turns, list(bells))

    def test_long_rows_and_great_turns(self):
        bells = [GREAT + 3 * k for k in range(600)]
        self.assertEqual(row_of(bells[-1] + 1, bells), bells)
        self.assert_refused(bells[-1], bells)
        self.assert_refused(bells[-1] + 1, bells[:300] + [bells[299]] + bells[300:599])
        self.assert_refused(10 * GREAT, bells[:598] + [bells[599], bells[598]])

    def test_the_row_is_a_new_list(self):
        handed = [1, 4, 6]
        row = row_of(8, handed)
        handed.append(0)
        self.assertEqual(row, [1, 4, 6])
        row.clear()
        self.assertEqual(handed, [1, 4, 6, 0])
        self.assertEqual(row_of(8, [1, 4, 6]), [1, 4, 6])

    def test_each_row_of_no_bells_is_a_new_list(self):
        row = row_of(0, [])
        row.append(3)
        self.assertEqual(row_of(0, []), [])


class Heard(unittest.TestCase):
    def test_delays_are_added(self):
        self.assertEqual(heard([0, 3, 7], [0, 0, 0]), [0, 3, 7])
        self.assertEqual(heard([0, 3, 7], [1, 2, 3]), [1, 5, 10])
        self.assertEqual(heard([4], [GREAT]), [GREAT + 4])

    def test_no_bells(self):
        self.assertEqual(heard([], []), [])

    def test_bells_overtake_one_another(self):
        self.assertEqual(heard([0, 1, 5], [6, 0, 0]), [1, 5, 6])
        self.assertEqual(heard([0, 1, 2], [4, 2, 0]), [2, 3, 4])
        self.assertEqual(heard([0, 1, 2, 3], [GREAT, 0, GREAT, 1]), [1, 4, GREAT, GREAT + 2])

    def test_bells_heard_in_one_turn_are_each_told(self):
        self.assertEqual(heard([0, 1, 2], [2, 1, 0]), [2, 2, 2])
        self.assertEqual(heard([0, 1, 9], [1, 0, 0]), [1, 1, 9])

    def test_long_rows(self):
        row = [5 * k for k in range(600)]
        self.assertEqual(heard(row, [6000 - 10 * k for k in range(600)]), [6000 - 5 * k for k in range(599, -1, -1)])

    def test_nothing_handed_is_changed_or_kept(self):
        row = [0, 1, 5]
        delays = [6, 0, 0]
        reading = heard(row, delays)
        self.assertEqual((row, delays), ([0, 1, 5], [6, 0, 0]))
        row[0] = 40
        delays[1] = 40
        self.assertEqual(reading, [1, 5, 6])
        reading.clear()
        self.assertEqual((row, delays), ([40, 1, 5], [6, 40, 0]))
        still = [2, 3]
        heard(still, [0, 0]).append(9)
        self.assertEqual(still, [2, 3])


class CanCome(unittest.TestCase):
    def test_just_what_is_heard_with_some_delays(self):
        readings = readings_up_to(8, 3)
        for row in rows_up_to(5, 3):
            for late in range(4):
                possible = all_heard(row, late)
                for reading in readings:
                    self.assertIs(can_come(row, reading, late), tuple(reading) in possible, (row, reading, late))

    def test_what_is_heard_can_come(self):
        row = [0, 2, 3, 9]
        for delays in product(range(4), repeat=4):
            self.assertIs(can_come(row, heard(row, list(delays)), 3), True)

    def test_no_bells(self):
        self.assertIs(can_come([], [], 0), True)
        self.assertIs(can_come([], [], GREAT), True)
        self.assertIs(can_come([], [0], GREAT), False)
        self.assertIs(can_come([0], [], GREAT), False)

    def test_not_as_many_bells(self):
        self.assertIs(can_come([0, 3], [0], 5), False)
        self.assertIs(can_come([0, 3], [0, 3, 3], 5), False)

    def test_no_lateness(self):
        self.assertIs(can_come([1, 4], [1, 4], 0), True)
        self.assertIs(can_come([1, 4], [1, 5], 0), False)
        self.assertIs(can_come([1, 4], [0, 4], 0), False)

    def test_great_lateness(self):
        self.assertIs(can_come([1, 4], [GREAT + 1, GREAT + 4], GREAT), True)
        self.assertIs(can_come([1, 4], [GREAT + 1, GREAT + 5], GREAT), False)
        self.assertIs(can_come([1, 4], [GREAT + 2, GREAT + 4], GREAT), False)
        self.assertIs(can_come([GREAT, GREAT + 4], [GREAT - 1, GREAT + 4], GREAT), False)

    def test_long_lists(self):
        row = [2 * k for k in range(600)]
        reading = [2 * k + 7 for k in range(600)]
        self.assertIs(can_come(row, reading, 7), True)
        self.assertIs(can_come(row, reading, 6), False)
        self.assertIs(can_come(row, reading[:-1] + [reading[-1] + 1], 7), False)
        self.assertIs(can_come(row, [0] + row[:-1], 7), False)

    def test_nothing_handed_is_changed(self):
        row = [0, 2]
        reading = [1, 2]
        can_come(row, reading, 1)
        self.assertEqual((row, reading), ([0, 2], [1, 2]))


class Alike(unittest.TestCase):
    def assert_alike(self, one, other, late, answer):
        self.assertIs(alike(one, other, late), answer, (one, other, late))
        reading = reading_of_both(one, other, late)
        if not answer:
            self.assertIsNone(reading)
            return
        self.assertIs(type(reading), list)
        self.assertEqual(reading, sorted(reading))
        self.assertTrue(can_come(one, reading, late), (one, other, late))
        self.assertTrue(can_come(other, reading, late), (one, other, late))

    def test_just_where_some_reading_can_come_of_both(self):
        for bells in range(4):
            rows = rows_of(6, bells)
            for late in range(4):
                possible = [all_heard(row, late) for row in rows]
                for one, heard_of_one in zip(rows, possible):
                    for other, heard_of_other in zip(rows, possible):
                        self.assert_alike(one, other, late, not heard_of_one.isdisjoint(heard_of_other))

    def test_the_reading_of_both_is_heard_of_both(self):
        for late in range(4):
            for one in combinations(range(6), 3):
                for other in combinations(range(6), 3):
                    reading = reading_of_both(list(one), list(other), late)
                    if reading is not None:
                        self.assertIn(tuple(reading), all_heard(one, late) & all_heard(other, late))

    def test_no_bells(self):
        self.assert_alike([], [], 0, True)
        self.assertEqual(reading_of_both([], [], GREAT), [])

    def test_no_lateness(self):
        self.assert_alike([0, 4], [0, 4], 0, True)
        self.assert_alike([0, 4], [0, 5], 0, False)
        self.assertEqual(reading_of_both([0, 4], [0, 4], 0), [0, 4])

    def test_great_lateness(self):
        self.assert_alike([0, 1], [GREAT, GREAT + 1], GREAT, True)
        self.assert_alike([0, 1], [GREAT, GREAT + 2], GREAT, False)
        self.assert_alike([1, GREAT + 1], [0, 1], GREAT, True)
        self.assert_alike([1, GREAT + 2], [0, 1], GREAT, False)

    def test_each_row_may_be_the_later_one_by_turns(self):
        self.assert_alike([0, 5, 6], [2, 3, 8], 2, True)
        self.assert_alike([0, 5, 6], [2, 3, 8], 1, False)

    def test_not_as_many_bells(self):
        for late in (0, 5, GREAT):
            self.assert_alike([], [0], late, False)
            self.assert_alike([0, 3], [0], late, False)
            self.assert_alike([0, 3], [0, 3, 4], late, False)

    def test_long_rows(self):
        one = [4 * k for k in range(600)]
        other = [4 * k + (3 if k % 2 else 0) for k in range(600)]
        self.assert_alike(one, other, 3, True)
        self.assert_alike(one, other, 2, False)
        self.assert_alike(one, one[:-1] + [one[-1] + 4], 3, False)

    def test_nothing_handed_is_changed_or_kept(self):
        one = [0, 5]
        other = [2, 5]
        reading = reading_of_both(one, other, 2)
        self.assertTrue(alike(one, other, 2))
        self.assertEqual((one, other), ([0, 5], [2, 5]))
        told = list(reading)
        one[0] = 30
        other.append(31)
        self.assertEqual(reading, told)
        reading.clear()
        self.assertEqual((one, other), ([30, 5], [2, 5, 31]))

    def test_the_reading_of_a_row_and_itself_is_a_new_list(self):
        row = [0, 5]
        reading_of_both(row, row, 0).append(9)
        self.assertEqual(row, [0, 5])
        reading_of_both([], [], 0).append(9)
        self.assertEqual(reading_of_both([], [], 0), [])


if __name__ == "__main__":
    unittest.main()
