"""Promises [32] to [34], and [2] and [3] as far as they speak of several ropes."""

import math
import unittest
from itertools import combinations, product

from bellwrite.boxes import box_count, box_of
from bellwrite.errors import NoReading, TooGreat
from bellwrite.messages import read, written
from bellwrite.ropes import belfry_count, peal_crowd, peal_read, peal_written, peals_alike
from listing import SIXTY_FIGURES, all_heard, all_peals_heard, peals_of, readings_up_to, refusal_of, small_belfries

TEN_ROPES = [(10 + 3 * rope, 1 + rope, rope % 4) for rope in range(10)]
GREAT_ROPES = [(SIXTY_FIGURES - rope, 6, 10 ** (5 * rope)) for rope in range(10)]


def pair_by_listing(peals, frames):
    boxes = [[box_of(row, frame[2]) for row, frame in zip(peal, frames)] for peal in peals]
    for second in range(len(peals)):
        for first in range(second):
            if boxes[first] == boxes[second]:
                return first, second
    return None


class BelfryCount(unittest.TestCase):
    def test_no_ropes(self):
        self.assertEqual(belfry_count([]), 1)
        self.assertIs(type(belfry_count([])), int)

    def test_one_rope(self):
        for frame in ((0, 0, 0), (6, 2, 1), (12, 3, 3), (2, 3, 0), (SIXTY_FIGURES, 60, 5)):
            self.assertTrue(belfry_count([frame]) == box_count(*frame), frame)

    def test_the_product_of_the_counts(self):
        self.assertEqual(belfry_count([(6, 2, 1), (12, 3, 3)]), 60)
        self.assertEqual(belfry_count([(12, 3, 3), (6, 2, 1), (4, 1, 1)]), 120)
        for frames in small_belfries():
            told = belfry_count(frames)
            self.assertIs(type(told), int)
            self.assertEqual(told, math.prod(box_count(*frame) for frame in frames))

    def test_just_as_many_as_all_lists_of_boxes(self):
        for frames in small_belfries():
            boxes = {tuple(tuple(box_of(row, frame[2])) for row, frame in zip(peal, frames))
                     for peal in peals_of(frames)}
            self.assertEqual(len(boxes), belfry_count(frames), frames)

    def test_ropes_without_bells(self):
        for many in range(11):
            self.assertEqual(belfry_count([(5, 0, 1)] * many), 1)
        self.assertEqual(belfry_count([(0, 0, 0), (6, 2, 1), (SIXTY_FIGURES, 0, 3)]), 6)

    def test_a_rope_with_more_bells_than_turns(self):
        for place in range(10):
            frames = [(6, 2, 1)] * 9
            frames.insert(place, (2, 3, 0))
            self.assertEqual(belfry_count(frames), 0)
        self.assertEqual(belfry_count([(0, 1, 0)]), 0)

    def test_ten_ropes(self):
        self.assertEqual(belfry_count([(6, 2, 1)] * 10), 6 ** 10)
        for frames in (TEN_ROPES, GREAT_ROPES):
            self.assertTrue(belfry_count(frames) == math.prod(box_count(*frame) for frame in frames))

    def test_nothing_handed_is_changed(self):
        frames = [(6, 2, 1), (12, 3, 3)]
        belfry_count(frames)
        self.assertEqual(frames, [(6, 2, 1), (12, 3, 3)])


class PealWritten(unittest.TestCase):
    def test_examples(self):
        # Six messages on the first rope and two on the second.
        frames = [(6, 2, 1), (4, 1, 1)]
        self.assertEqual(peal_written(0, frames), [[0, 1], [0]])
        self.assertEqual(peal_written(5, frames), [[4, 5], [0]])
        self.assertEqual(peal_written(6, frames), [[0, 1], [2]])
        self.assertEqual(peal_written(11, frames), [[4, 5], [2]])
        # Just ten figures on each.
        self.assertEqual(peal_written(274, [(10, 1, 0)] * 4), [[4], [7], [2], [0]])

    def test_the_figures_of_all_messages_the_first_rope_s_first(self):
        for frames in small_belfries():
            counts = [box_count(*frame) for frame in frames]
            # The last of the figures that product lists changes soonest.
            all_figures = [figures[::-1] for figures in product(*[range(count) for count in counts[::-1]])]
            self.assertEqual(len(all_figures), belfry_count(frames))
            for message, figures in enumerate(all_figures):
                rows = [written(figure, *frame) for figure, frame in zip(figures, frames)]
                told = peal_written(message, frames)
                self.assertIs(type(told), list)
                self.assertEqual(told, rows, (message, frames))

    def test_no_ropes(self):
        self.assertEqual(peal_written(0, []), [])
        for message in (-1, 1, 2, 10 ** 3999):
            self.assertTrue(refusal_of(peal_written, message, []) is TooGreat)

    def test_ropes_without_bells(self):
        frames = [(5, 0, 1), (4, 1, 1), (0, 0, 0)]
        self.assertEqual(peal_written(0, frames), [[], [0], []])
        self.assertEqual(peal_written(1, frames), [[], [2], []])
        self.assertEqual(peal_written(0, [(5, 0, 1)] * 10), [[]] * 10)
        self.assertIs(refusal_of(peal_written, 1, [(5, 0, 1)] * 10), TooGreat)

    def test_below_nought_and_no_less_than_the_count(self):
        for frames in small_belfries() + [TEN_ROPES, GREAT_ROPES]:
            count = belfry_count(frames)
            for message in (-1, -2, -count - 1, count, count + 1, 2 * count + 1, 10 ** 3999):
                self.assertTrue(refusal_of(peal_written, message, frames) is TooGreat, frames)
            if count > 0:
                self.assertIsNone(refusal_of(peal_written, count - 1, frames))

    def test_a_rope_with_more_bells_than_turns(self):
        for frames in ([(2, 3, 0)], [(6, 2, 1), (2, 3, 0)], [(2, 3, 0), (6, 2, 1)], [(0, 1, 5), (0, 1, 5)]):
            for message in (-1, 0, 1, 5, SIXTY_FIGURES):
                self.assertIs(refusal_of(peal_written, message, frames), TooGreat)

    def test_ten_ropes(self):
        for frames in (TEN_ROPES, GREAT_ROPES):
            count = belfry_count(frames)
            self.assertEqual(peal_written(0, frames), [list(range(bells)) for _, bells, _ in frames])
            last = [written(box_count(*frame) - 1, *frame) for frame in frames]
            self.assertEqual(peal_written(count - 1, frames), last)
            message = count // 7
            left = message
            for row, frame in zip(peal_written(message, frames), frames):
                self.assertTrue(row == written(left % box_count(*frame), *frame))
                left = left // box_count(*frame)

    def test_each_list_is_a_new_one(self):
        frames = [(6, 2, 1)] * 3
        told = peal_written(0, frames)
        told[0].append(99)
        self.assertEqual(told[1:], [[0, 1], [0, 1]])
        told.clear()
        self.assertEqual(peal_written(0, frames), [[0, 1]] * 3)
        self.assertEqual(frames, [(6, 2, 1)] * 3)

    def test_a_belfry_that_is_changed_later(self):
        frames = [(6, 2, 1), (4, 1, 1)]
        told = peal_written(11, frames)
        frames[0] = (9, 3, 0)
        frames.append((4, 1, 1))
        self.assertEqual(told, [[4, 5], [2]])
        self.assertEqual(peal_written(11, [(6, 2, 1), (4, 1, 1)]), [[4, 5], [2]])


class PealRead(unittest.TestCase):
    def assert_refused(self, readings, frames):
        self.assertIs(refusal_of(peal_read, readings, frames), NoReading, (readings, frames))

    def test_examples(self):
        frames = [(6, 2, 1), (4, 1, 1)]
        self.assertEqual(peal_read([[0, 1], [0]], frames), 0)
        self.assertEqual(peal_read([[5, 5], [1]], frames), 5)
        self.assertEqual(peal_read([[1, 1], [3]], frames), 6)
        self.assertEqual(peal_read([[4], [7], [2], [0]], [(10, 1, 0)] * 4), 274)

    def test_all_messages_with_all_delays(self):
        for frames in small_belfries():
            for message in range(belfry_count(frames)):
                for readings in all_peals_heard(peal_written(message, frames), frames):
                    told = peal_read(readings, frames)
                    self.assertIs(type(told), int)
                    self.assertEqual(told, message)

    def test_all_hearings_of_two_ropes(self):
        for frames in ([(3, 1, 1), (4, 2, 1)], [(4, 2, 1), (3, 1, 0)], [(3, 0, 2), (4, 2, 0)], [(1, 2, 0), (2, 1, 0)]):
            messages = {}
            for message in range(belfry_count(frames)):
                for readings in all_peals_heard(peal_written(message, frames), frames):
                    messages[repr(readings)] = message
            for hearing in product(readings_up_to(6, 2), repeat=2):
                readings = [list(reading) for reading in hearing]
                if repr(readings) in messages:
                    self.assertEqual(peal_read(readings, frames), messages[repr(readings)])
                else:
                    self.assert_refused(readings, frames)

    def test_no_ropes(self):
        self.assertEqual(peal_read([], []), 0)
        self.assert_refused([[]], [])
        self.assert_refused([[0], [1]], [])

    def test_ropes_without_bells(self):
        self.assertEqual(peal_read([[], [], []], [(5, 0, 1)] * 3), 0)
        self.assertEqual(peal_read([[], [3], []], [(5, 0, 1), (4, 1, 1), (0, 0, 0)]), 1)
        self.assert_refused([[], [3], [0]], [(5, 0, 1), (4, 1, 1), (0, 0, 0)])

    def test_not_as_many_readings_as_ropes(self):
        for many in range(1, 11):
            frames = [(6, 2, 1)] * many
            readings = [[0, 1]] * many
            self.assertEqual(peal_read(readings, frames), 0)
            self.assert_refused(readings[1:], frames)
            self.assert_refused(readings + [[0, 1]], frames)
            self.assert_refused(readings + [[]], frames)
            self.assert_refused([], frames)

    def test_a_reading_that_its_frame_refuses(self):
        frames = [(6, 2, 1), (4, 1, 1), (9, 3, 2)]
        good = [[1, 2], [3], [0, 3, 8]]
        self.assertIsNone(refusal_of(peal_read, good, frames))
        # Too few, too many, of no box, behind the frame's last part.
        bad = [[[], [1], [1, 2, 3], [0, 0], [2, 2], [6, 7], [4, 9]], [[], [1, 1], [4], [99]],
               [[], [0, 1], [0, 0, 0], [0, 3, 11], [0, 1, 11], [0, 1, 2, 3]]]
        for place in range(3):
            for reading in bad[place]:
                self.assertIs(refusal_of(read, reading, *frames[place]), NoReading)
                self.assert_refused(good[:place] + [reading] + good[place + 1:], frames)

    def test_a_rope_with_more_bells_than_turns(self):
        for readings in ([[0], [0, 1, 2]], [[0], [0, 1]], [[0], []], [[2], [0, 9, 20]]):
            self.assert_refused(readings, [(4, 1, 1), (2, 3, 0)])
            self.assert_refused(readings[::-1], [(2, 3, 0), (4, 1, 1)])

    def test_ten_ropes(self):
        for frames in (TEN_ROPES, GREAT_ROPES):
            count = belfry_count(frames)
            for message in (0, 1, count // 3, count // 2, count - 2, count - 1):
                peal = peal_written(message, frames)
                for delay in (0, 1):
                    readings = [[turn + delay * late for turn in row] for row, (_, _, late) in zip(peal, frames)]
                    self.assertTrue(peal_read(readings, frames) == message)

    def test_sixty_bells_on_one_rope(self):
        frames = [(5, 0, 0), (SIXTY_FIGURES, 60, 9)]
        message = belfry_count(frames) - 1
        self.assertTrue(peal_read(peal_written(message, frames), frames) == message)

    def test_nothing_handed_is_changed(self):
        frames = [(6, 2, 1), (4, 1, 1)]
        readings = [[5, 5], [3]]
        self.assertEqual(peal_read(readings, frames), 11)
        self.assertEqual((readings, frames), ([[5, 5], [3]], [(6, 2, 1), (4, 1, 1)]))
        readings[0][0] = 0
        self.assertEqual(peal_read([[5, 5], [3]], frames), 11)


class PealsAlike(unittest.TestCase):
    def test_just_where_each_rope_s_rows_can_be_heard_alike(self):
        for frames in small_belfries():
            peals = peals_of(frames)[:40]
            possible = [[all_heard(row, frame[2]) for row, frame in zip(peal, frames)] for peal in peals]
            for one in range(len(peals)):
                for other in range(len(peals)):
                    listed = all(first & second for first, second in zip(possible[one], possible[other]))
                    self.assertIs(peals_alike(peals[one], peals[other], frames), listed)

    def test_no_ropes(self):
        self.assertIs(peals_alike([], [], []), True)

    def test_ropes_without_bells(self):
        self.assertIs(peals_alike([[], []], [[], []], [(5, 0, 0), (0, 0, 0)]), True)
        self.assertIs(peals_alike([[], [1]], [[], [2]], [(5, 0, 9), (5, 1, 0)]), False)

    def test_each_rope_with_its_own_lateness(self):
        late = [0, 1, 2, 3, 5, 8, 13, 21, 34, SIXTY_FIGURES]
        frames = [(SIXTY_FIGURES, 2, some) for some in late]
        one = [[3, 10 ** 59] for _ in late]
        farthest = [[3 + some, 10 ** 59 + some] if some < 99 else [4, SIXTY_FIGURES - 1] for some in late]
        self.assertIs(peals_alike(one, farthest, frames), True)
        self.assertIs(peals_alike(farthest, one, frames), True)
        for place in range(9):
            for bell in range(2):
                other = [list(row) for row in farthest]
                other[place][bell] += 1
                self.assertIs(peals_alike(one, other, frames), False)
                self.assertIs(peals_alike(other, one, frames), False)

    def test_the_peals_that_are_written_are_not_alike(self):
        for frames in small_belfries():
            peals = [peal_written(message, frames) for message in range(belfry_count(frames))]
            for one, other in combinations(peals, 2):
                self.assertIs(peals_alike(one, other, frames), False)
            for peal in peals:
                self.assertIs(peals_alike(peal, peal, frames), True)

    def test_rows_of_unlike_numbers_of_bells(self):
        self.assertIs(peals_alike([[0]], [[0, 1]], [(5, 1, 9)]), False)
        self.assertIs(peals_alike([[]], [[0]], [(5, 1, 9)]), False)

    def test_nothing_handed_is_changed(self):
        one, other, frames = [[0, 4], [3]], [[1, 5], [3]], [(6, 2, 1), (4, 1, 1)]
        self.assertIs(refusal_of(peals_alike, one, other, frames), None)


class PealCrowd(unittest.TestCase):
    def assert_crowd(self, peals, frames, pair):
        told = peal_crowd(peals, frames)
        if pair is None:
            self.assertIsNone(told, (peals, frames))
            return
        self.assertIs(type(told), tuple)
        first, second, readings = told
        self.assertEqual((first, second), pair, (peals, frames))
        self.assertIs(type(readings), list)
        self.assertEqual(len(readings), len(frames))
        for peal in (peals[first], peals[second]):
            for row, reading, frame in zip(peal, readings, frames):
                self.assertIs(type(reading), list)
                self.assertEqual(len(reading), len(row))
                self.assertEqual(reading, sorted(reading))
                self.assertTrue(all(0 <= came - rung <= frame[2] for rung, came in zip(row, reading)))

    def test_all_short_lists_of_small_belfries(self):
        for frames in ([], [(4, 2, 1)], [(3, 1, 1), (2, 1, 1)], [(3, 2, 1), (3, 1, 0)], [(2, 1, 0), (2, 0, 1), (2, 1, 2)]):
            for many in range(4):
                for peals in product(peals_of(frames), repeat=many):
                    self.assert_crowd(list(peals), frames, pair_by_listing(peals, frames))

    def test_no_crowd_of_the_peals_that_are_written(self):
        for frames in small_belfries():
            peals = [peal_written(message, frames) for message in range(belfry_count(frames))]
            self.assertIsNone(peal_crowd(peals, frames))

    def test_one_peal_more_than_the_count(self):
        for frames in small_belfries():
            peals = [peal_written(message, frames) for message in range(belfry_count(frames))]
            for peal in peals_of(frames):
                crowded = peals + [peal]
                message = peal_read([[part * (frame[2] + 1) + place for place, part in enumerate(box_of(row, frame[2]))]
                                     for row, frame in zip(peal, frames)], frames)
                self.assert_crowd(crowded, frames, (message, len(peals)))

    def test_no_peal_and_one(self):
        for frames in ([], [(6, 2, 1)], [(6, 2, 1), (4, 1, 1)]):
            self.assertIsNone(peal_crowd([], frames))
        self.assertIsNone(peal_crowd([[]], []))
        self.assertIsNone(peal_crowd([[[0, 1], [0]]], [(6, 2, 1), (4, 1, 1)]))

    def test_no_ropes(self):
        self.assertEqual(peal_crowd([[], []], []), (0, 1, []))
        self.assertEqual(peal_crowd([[], [], []], []), (0, 1, []))

    def test_ropes_without_bells(self):
        self.assertEqual(peal_crowd([[[], []]] * 2, [(5, 0, 1), (0, 0, 0)]), (0, 1, [[], []]))
        self.assertIsNone(peal_crowd([[[], [0]], [[], [2]]], [(5, 0, 1), (5, 1, 1)]))

    def test_the_least_second(self):
        frames = [(9, 1, 0), (9, 1, 0)]
        a, b, c = [[0], [1]], [[1], [0]], [[0], [0]]
        self.assert_crowd([a, b, c, c, b, a], frames, (2, 3))
        self.assert_crowd([a, b, c, a, b, c], frames, (0, 3))
        self.assert_crowd([c, a, b, b, c], frames, (2, 3))
        self.assert_crowd([a, b, c, b, a, a], frames, (1, 3))
        self.assert_crowd([a, a, a], frames, (0, 1))

    def test_of_one_box_for_each_rope_alone(self):
        frames = [(9, 1, 1), (9, 1, 2), (9, 1, 3)]
        peal = [[0], [0], [0]]
        self.assert_crowd([peal, [[1], [2], [3]]], frames, (0, 1))
        for place in range(3):
            other = [[1], [2], [3]]
            other[place][0] += 1
            self.assertIsNone(peal_crowd([peal, other], frames))

    def test_alike_though_of_unlike_boxes(self):
        frames = [(4, 1, 1), (4, 1, 1)]
        one, other = [[1], [0]], [[2], [0]]
        self.assertIs(peals_alike(one, other, frames), True)
        self.assertIsNone(peal_crowd([one, other], frames))

    def test_the_numbers_of_one_rope_are_not_another_s(self):
        frames = [(5, 2, 0), (5, 1, 0), (5, 0, 0)]
        self.assertIsNone(peal_crowd([[[0, 1], [2], []], [[0, 2], [1], []]], frames))
        self.assertIsNone(peal_crowd([[[0], [1]], [[1], [0]]], [(5, 1, 0), (5, 1, 0)]))

    def test_six_hundred_peals_of_ten_ropes(self):
        count = belfry_count(TEN_ROPES)
        peals = [peal_written(count // 700 * place, TEN_ROPES) for place in range(600)]
        self.assertIsNone(peal_crowd(peals, TEN_ROPES))
        for place in (0, 77, 598):
            latest = [[turn + frame[2] for turn in row] for row, frame in zip(peals[place], TEN_ROPES)]
            self.assert_crowd(peals[:599] + [latest], TEN_ROPES, (place, 599))

    def test_great_numbers(self):
        peals = [peal_written(message, GREAT_ROPES) for message in (5, 10 ** 2000, 7)]
        later = [[turn + frame[2] for turn in row] for row, frame in zip(peals[1], GREAT_ROPES)]
        self.assert_crowd(peals + [later], GREAT_ROPES, (1, 3))

    def test_the_readings_are_new_lists(self):
        frames = [(6, 2, 1), (4, 1, 1)]
        peals = [[[0, 1], [0]], [[0, 1], [0]]]
        readings = peal_crowd(peals, frames)[2]
        readings[0].append(9)
        readings[1][0] = 7
        readings.append([])
        self.assertEqual(peals, [[[0, 1], [0]], [[0, 1], [0]]])
        self.assertEqual(peal_crowd(peals, frames), (0, 1, [[0, 1], [0]]))

    def test_nothing_handed_is_changed_or_kept(self):
        frames = [(6, 2, 1), (4, 1, 1)]
        peals = [[[0, 1], [0]], [[4, 5], [2]], [[1, 2], [1]]]
        self.assertIsNone(refusal_of(peal_crowd, peals, frames))
        first, second, readings = peal_crowd(peals, frames)
        before = [list(reading) for reading in readings]
        peals[0][0][0] = 5
        peals[2][1].clear()
        frames.clear()
        self.assertEqual((first, second, readings), (0, 2, before))


if __name__ == "__main__":
    unittest.main()
