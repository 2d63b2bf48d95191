"""Promises [29] to [31], and [2] and [3] as far as they speak of notes."""

import random
import unittest
from itertools import product
from string import ascii_lowercase

from bellwrite.boxes import box_count
from bellwrite.errors import NoNote, NoReading, NoRow, TooGreat
from bellwrite.notes import note_number, note_of, number_of_parts, parts, received, sent
from bellwrite.talks import rung
from listing import SIXTY_FIGURES, refusal_of, talk_frames_up_to

SIGNS = ascii_lowercase + " "
SIXTY_BLANKS = " " * 60
NUMBER_OF_SIXTY_BLANKS = sum(27 ** place for place in range(1, 61))
SOME_NOTES = ("", "a", "z", " ", "aa", "  ", "ring at noon", "the quick brown fox", "z" * 60, "a" * 60, SIXTY_BLANKS)
NO_NOTES = (None, 0, 1, -1, True, False, SIXTY_FIGURES, 1.5, b"abc", [], ["a"], ("a", "b"), {}, {"a": 1}, object(), str,
            "A", "Z", "aB", "1", "a1", "a-b", "a.", "~", "`", "{", "!", "@", "\t", "\n", "a\n", "\ta", "a\tb", "_",
            "a" * 61, " " * 61, "a" * 60 + "\n", "a" * 300, "\u00e4", "\u00a0", "\u0430", "\uff41")


def notes_of(signs, most):
    """All notes of these signs, the shorter ones first, each length in the order of the signs' places."""
    return ["".join(chosen) for many in range(most + 1) for chosen in product(signs, repeat=many)]


class NoteNumber(unittest.TestCase):
    def test_examples(self):
        for note, number in (("", 0), ("a", 1), ("b", 2), ("z", 26), (" ", 27), ("aa", 28), ("ab", 29), ("a ", 54),
                             ("ba", 55), (" a", 27 * 27 + 1), ("  ", 756), ("aaa", 757), ("bell", 43347)):
            self.assertEqual(note_number(note), number)

    def test_all_notes_of_few_signs_have_the_numbers_from_nought_on(self):
        notes = notes_of(SIGNS, 3)
        self.assertEqual([note_number(note) for note in notes], list(range(len(notes))))

    def test_sixty_signs_and_one_more(self):
        self.assertEqual(note_number(SIXTY_BLANKS), NUMBER_OF_SIXTY_BLANKS)
        self.assertEqual(note_number("a" * 60), sum(27 ** place for place in range(60)))
        for sign in SIGNS:
            self.assertIsNone(refusal_of(note_number, sign * 60))
            self.assertIs(refusal_of(note_number, sign * 61), NoNote)

    def test_what_is_no_note(self):
        for thing in NO_NOTES:
            with self.subTest(repr(thing)):
                with self.assertRaises(NoNote) as refused:
                    note_number(thing)
                self.assertIs(type(refused.exception), NoNote)

    def test_each_sign(self):
        for code in range(0x250):
            if chr(code) not in SIGNS:
                for note in (chr(code), "a" + chr(code), chr(code) + " "):
                    self.assertIs(refusal_of(note_number, note), NoNote, repr(note))


class NoteOf(unittest.TestCase):
    def test_all_notes_of_few_signs(self):
        for number, note in enumerate(notes_of(SIGNS, 3)):
            told = note_of(number)
            self.assertIs(type(told), str)
            self.assertEqual(told, note)

    def test_there_and_back(self):
        chance = random.Random(29)
        for length in range(61):
            note = "".join(chance.choice(SIGNS) for _ in range(length))
            self.assertEqual(note_of(note_number(note)), note)
        for note in SOME_NOTES:
            self.assertEqual(note_of(note_number(note)), note)
        for _ in range(200):
            number = chance.randrange(NUMBER_OF_SIXTY_BLANKS + 1)
            self.assertEqual(note_number(note_of(number)), number)

    def test_sixty_blanks_and_one_more(self):
        self.assertEqual(note_of(NUMBER_OF_SIXTY_BLANKS), SIXTY_BLANKS)
        self.assertEqual(note_of(NUMBER_OF_SIXTY_BLANKS - 1), " " * 59 + "z")
        for number in (NUMBER_OF_SIXTY_BLANKS + 1, NUMBER_OF_SIXTY_BLANKS + 2, 10 ** 90, 10 ** 4000 - 1):
            self.assertTrue(refusal_of(note_of, number) is NoNote)

    def test_below_nought(self):
        self.assertEqual(note_of(0), "")
        for number in (-1, -2, -27, -NUMBER_OF_SIXTY_BLANKS, -10 ** 3999):
            self.assertTrue(refusal_of(note_of, number) is NoNote)

    def test_things_of_other_kinds(self):
        for thing in (None, True, False, "", "a", "7", 1.0, 0.5, b"a", [], [1], (1,), {}):
            self.assertIs(refusal_of(note_of, thing), NoNote, repr(thing))


class Parts(unittest.TestCase):
    def test_examples(self):
        self.assertEqual(parts(0, 2), [])
        self.assertEqual(parts(1, 2), [1])
        self.assertEqual(parts(6, 2), [0, 1, 1])
        self.assertEqual(parts(1207, 10), [7, 0, 2, 1])
        self.assertEqual(parts(10, 10), [0, 1])
        self.assertEqual(parts(9, 10), [9])

    def test_held_against_all_figures(self):
        for base in (2, 3, 5, 10, 27):
            for number in range(400):
                told = parts(number, base)
                self.assertIs(type(told), list)
                self.assertTrue(all(0 <= figure < base for figure in told))
                self.assertTrue(told == [] or told[-1] != 0)
                self.assertEqual(sum(figure * base ** place for place, figure in enumerate(told)), number)

    def test_nought_by_any_base(self):
        for base in (2, 3, 10, SIXTY_FIGURES, 10 ** 3999):
            self.assertTrue(parts(0, base) == [])

    def test_great_numbers_and_bases(self):
        for base in (2, 3, 10, 27, SIXTY_FIGURES, 10 ** 999 + 7, 10 ** 3998, 10 ** 3999):
            for number in (base - 1, base, base + 1, base * 3, SIXTY_FIGURES, 10 ** 3999, 10 ** 4000 - 1):
                told = parts(number, base)
                self.assertTrue(all(0 <= figure < base for figure in told))
                self.assertTrue(told[-1] != 0)
                self.assertTrue(sum(figure * base ** place for place, figure in enumerate(told)) == number)
                self.assertTrue(number_of_parts(told, base) == number)
            self.assertTrue(parts(base - 1, base) == [base - 1])
            self.assertTrue(parts(base, base) == [0, 1])

    def test_each_list_is_a_new_one(self):
        for number in (0, 6):
            told = parts(number, 2)
            before = list(told)
            told.append(1)
            self.assertEqual(parts(number, 2), before)


class NumberOfParts(unittest.TestCase):
    def test_all_short_lists(self):
        for base in (2, 3, 4):
            for many in range(6):
                for figures in product(range(base), repeat=many):
                    number = sum(figure * base ** place for place, figure in enumerate(figures))
                    told = number_of_parts(list(figures), base)
                    self.assertIs(type(told), int)
                    self.assertEqual(told, number)

    def test_the_last_ones_may_be_nought(self):
        for base in (2, 10, SIXTY_FIGURES, 10 ** 3999):
            self.assertEqual(number_of_parts([], base), 0)
            for noughts in (1, 2, 3, 100):
                self.assertEqual(number_of_parts([0] * noughts, base), 0)
                self.assertEqual(number_of_parts([1] + [0] * noughts, base), 1)
                self.assertTrue(number_of_parts([1, 1] + [0] * noughts, base) == base + 1)

    def test_long_lists(self):
        for many in (599, 600, 601):
            for base in (2, 10, SIXTY_FIGURES):
                figures = [(place * place + 1) % base for place in range(many)]
                number = 0
                for figure in figures[::-1]:
                    number = number * base + figure
                self.assertTrue(number_of_parts(figures, base) == number, many)

    def test_nothing_handed_is_changed(self):
        for figures in ([1], [1, 0], [1, 2, 0], [0, 0, 0, 0, 1]):
            before = list(figures)
            number_of_parts(figures, 10)
            self.assertEqual(figures, before)


class Sent(unittest.TestCase):
    def assert_refused(self, refusal, note, turns, bells, late):
        self.assertIs(refusal_of(sent, note, turns, bells, late), refusal, (note, turns, bells, late))

    def test_examples(self):
        # A count of 3, so parts by 2: 1 for a; 0, 1 for b; 1, 1, 0, 1, 1 for the blank.
        self.assertEqual(sent("", 3, 1, 0), [0])
        self.assertEqual(sent("a", 3, 1, 0), [2, 3])
        self.assertEqual(sent("b", 3, 1, 0), [1, 5, 6])
        self.assertEqual(sent(" ", 3, 1, 0), [2, 5, 7, 11, 14, 15])
        # A count of 6, so parts by 5: 2, 1 for g.
        self.assertEqual(sent("g", 6, 2, 1), [0, 5, 9, 10, 14, 15])

    def test_the_parts_by_one_less_than_the_count_each_one_more(self):
        for turns, bells, late in talk_frames_up_to(7, 4, 3):
            count = box_count(turns, bells, late)
            if count >= 3:
                for note in notes_of("ak z", 2) + ["ring at noon"]:
                    messages = [figure + 1 for figure in parts(note_number(note), count - 1)] + [0]
                    told = sent(note, turns, bells, late)
                    self.assertIs(type(told), list)
                    self.assertEqual(told, rung(messages, turns, bells, late))

    def test_the_empty_note(self):
        for turns, bells, late in ((3, 1, 0), (6, 2, 1), (SIXTY_FIGURES, 60, 9)):
            self.assertEqual(sent("", turns, bells, late), list(range(bells)))

    def test_a_count_of_three_and_below(self):
        for turns, bells, late in talk_frames_up_to(9, 5, 9):
            if box_count(turns, bells, late) < 3:
                for note in ("", "a", SIXTY_BLANKS):
                    self.assert_refused(TooGreat, note, turns, bells, late)
            else:
                self.assert_refused(None, "a", turns, bells, late)
        for turns, bells, late in ((3, 1, 0), (4, 2, 1), (3, 2, 0), (5, 1, 1)):
            self.assertEqual(box_count(turns, bells, late), 3)
            self.assert_refused(None, SIXTY_BLANKS, turns, bells, late)
        for turns, bells, late in ((2, 1, 0), (3, 1, 1), (4, 1, 1), (4, 1, 2)):
            self.assertEqual(box_count(turns, bells, late), 2)
            self.assert_refused(TooGreat, "", turns, bells, late)
        self.assert_refused(TooGreat, "a", 60, 60, 0)
        self.assert_refused(TooGreat, "a", SIXTY_FIGURES, 60, SIXTY_FIGURES)

    def test_no_frame_for_talks(self):
        for turns, bells, late in ((0, 0, 0), (5, 0, 0), (SIXTY_FIGURES, 0, 3), (0, 1, 0), (2, 3, 0), (59, 60, 9)):
            for note in ("", "a", SIXTY_BLANKS):
                self.assert_refused(NoRow, note, turns, bells, late)

    def test_what_is_no_note_goes_first(self):
        for thing in NO_NOTES:
            for turns, bells, late in ((6, 2, 1), (0, 0, 0), (2, 3, 0), (2, 1, 0), (1, 1, 0)):
                with self.assertRaises(NoNote) as refused:
                    sent(thing, turns, bells, late)
                self.assertIs(type(refused.exception), NoNote)

    def test_each_list_is_a_new_one(self):
        for note in ("", "b"):
            told = sent(note, 3, 1, 0)
            before = list(told)
            told.append(99)
            self.assertEqual(sent(note, 3, 1, 0), before)


class Received(unittest.TestCase):
    def assert_refused(self, reading, turns, bells, late):
        refusal = refusal_of(received, reading, turns, bells, late)
        self.assertIs(refusal, NoReading, (reading[:9], turns, bells, late))

    def test_examples(self):
        self.assertEqual(received([0], 3, 1, 0), "")
        self.assertEqual(received([2, 3], 3, 1, 0), "a")
        self.assertEqual(received([1, 5, 6], 3, 1, 0), "b")
        self.assertEqual(received([1, 6, 9, 11, 15, 15], 6, 2, 1), "g")

    def test_short_notes_with_all_delays(self):
        for turns, bells, late in talk_frames_up_to(6, 2, 2):
            if box_count(turns, bells, late) >= 3:
                for note in ("", "a", "b", "d"):
                    row = sent(note, turns, bells, late)
                    for delays in product(range(late + 1), repeat=len(row)):
                        reading = sorted(turn + delay for turn, delay in zip(row, delays))
                        told = received(reading, turns, bells, late)
                        self.assertIs(type(told), str)
                        self.assertEqual(told, note)

    def test_long_notes_with_some_delays(self):
        chance = random.Random(31)
        for turns, bells, late in ((3, 1, 0), (4, 2, 1), (9, 3, 2), (40, 12, 3), (99, 60, 1), (9, 2, 2)):
            for note in SOME_NOTES:
                row = sent(note, turns, bells, late)
                reading = sorted(turn + chance.randint(0, late) for turn in row)
                self.assertEqual(received(reading, turns, bells, late), note)
                self.assertEqual(received([turn + late for turn in row], turns, bells, late), note)

    def test_great_frames(self):
        for bells in (1, 2, 60):
            for late in (0, 5, 10 ** 30, SIXTY_FIGURES // 2 - 60):
                for note in SOME_NOTES:
                    row = sent(note, SIXTY_FIGURES, bells, late)
                    crosswise = sorted(turn + (late if place % 2 == 0 else 0) for place, turn in enumerate(row))
                    self.assertEqual(received(crosswise, SIXTY_FIGURES, bells, late), note)
                    self.assertEqual(received([turn + late for turn in row], SIXTY_FIGURES, bells, late), note)

    def test_the_last_parts_may_be_nought(self):
        for turns, bells, late in ((3, 1, 0), (6, 2, 1), (9, 3, 2)):
            for noughts in (1, 2, 7, 1000):
                for ahead, note in (([], ""), ([2], "a")):
                    reading = rung(ahead + [1] * noughts + [0], turns, bells, late)
                    self.assertEqual(received(reading, turns, bells, late), note)

    def test_numbers_behind_are_not_looked_at(self):
        # Six messages, seven turns for each.
        for note in ("", "a", "ring at noon"):
            reading = sent(note, 6, 2, 1)
            end = len(reading) // 2 * 7
            for behind in ([0], [0, 0], [1, 1, 1], [6], [7, 9], [SIXTY_FIGURES], list(range(9999))):
                self.assertEqual(received(reading + [end + turn for turn in behind], 6, 2, 1), note)
            self.assert_refused(reading + [end - 1], 6, 2, 1)
            self.assert_refused(reading + [end - 1, end], 6, 2, 1)

    def test_what_breaks_off_ahead_of_the_message_nought(self):
        for note in ("", "a", "b", "ring at noon"):
            reading = sent(note, 6, 2, 1)
            for end in range(len(reading)):
                self.assert_refused(reading[:end], 6, 2, 1)
        self.assert_refused([], 3, 1, 0)
        self.assert_refused([2, 6], 3, 1, 0)
        self.assert_refused([3], 3, 1, 0)
        self.assert_refused([SIXTY_FIGURES], 3, 1, 0)

    def test_what_cannot_be_read(self):
        # The first message, one ahead of the end, and the end itself.
        self.assertEqual(received([0, 5, 9, 10, 14, 15], 6, 2, 1), "g")
        for reading in ([0, 0, 9, 10, 14, 15], [0, 9, 10, 14, 15], [0, 3, 5, 9, 10, 14, 15], [0, 5, 9, 9, 14, 15],
                        [0, 5, 9, 14, 15], [0, 5, 9, 10, 11, 14, 15], [0, 5, 9, 10, 14, 14], [0, 5, 9, 10, 14],
                        [0, 5, 9, 10, 14, 15, 16]):
            self.assert_refused(reading, 6, 2, 1)
        # The turns 9 and 10 lie in a part that is not whole.
        self.assert_refused([9, 11], 9, 1, 2)
        self.assert_refused([10, 11], 9, 1, 2)
        self.assertEqual(received([8, 11], 9, 1, 2), "a")

    def test_what_is_received_is_the_number_of_no_note(self):
        for turns, bells, late in ((3, 1, 0), (6, 2, 1), (9, 3, 2), (99, 60, 1), (SIXTY_FIGURES, 60, 3)):
            base = box_count(turns, bells, late) - 1
            for above in (0, 1, 2, base, 27 ** 60):
                figures = parts(NUMBER_OF_SIXTY_BLANKS + above, base)
                reading = rung([figure + 1 for figure in figures] + [0], turns, bells, late)
                if above == 0:
                    self.assertEqual(received(reading, turns, bells, late), SIXTY_BLANKS)
                else:
                    self.assert_refused(reading, turns, bells, late)

    def test_twenty_thousand_numbers(self):
        self.assertEqual(received(rung([1] * 9999 + [0], 6, 2, 1), 6, 2, 1), "")
        self.assert_refused(rung([1] * 9998 + [2, 0], 6, 2, 1), 6, 2, 1)
        self.assert_refused(rung([1] * 10000, 6, 2, 1), 6, 2, 1)
        self.assert_refused(rung([5] * 9999 + [0], 6, 2, 1), 6, 2, 1)
        self.assertEqual(received(rung([0] * 10000, 6, 2, 1), 6, 2, 1), "")

    def test_nothing_handed_is_changed(self):
        reading = [1, 6, 9, 11, 15, 15, 90]
        received(reading, 6, 2, 1)
        self.assertEqual(reading, [1, 6, 9, 11, 15, 15, 90])
        reading[0] = 0
        self.assertEqual(received([1, 6, 9, 11, 15, 15, 90], 6, 2, 1), "g")


if __name__ == "__main__":
    unittest.main()
