"""Promises [25] and [26], and [2] and [3] as far as they speak of hearers."""

import unittest
from itertools import product

from bellwrite.boxes import box_count
from bellwrite.errors import NoReading, NoRow
from bellwrite.hearers import Hearer, KeenHearer
from bellwrite.messages import written
from bellwrite.talks import rung
from listing import SIXTY_FIGURES, all_heard, refusal_of, talk_frames_up_to, talks_of

REFUSED = "refused"
BOTH = (Hearer, KeenHearer)


def counts_of(reading, turns):
    """How many bells are heard in each of so many turns."""
    counts = [0] * turns
    for turn in reading:
        counts[turn] += 1
    return counts


def answers(hearer, counts):
    """What a hearer answers turn by turn, up to a refusal."""
    told = []
    for many in counts:
        try:
            told.append(hearer.turn(many))
        except NoReading:
            told.append(REFUSED)
            break
    return told


class Listing:
    """What the document asks of both hearers in a frame, found by listing all readings of all messages."""

    def __init__(self, turns, bells, late):
        self.bells = bells
        self.length = turns + late
        self.readings = [(message, reading) for message in range(box_count(turns, bells, late))
                         for reading in all_heard(written(message, turns, bells, late), late)]

    def possible(self, heard, now):
        """The messages of which what was heard up to the end of this turn can be the beginning."""
        return {message for message, reading in self.readings
                if tuple(turn for turn in reading if turn <= now) == tuple(heard)}

    def heard_and_now(self, counts):
        """What was heard of the message that the last turn belongs to, and which one of its turns that is."""
        now = (len(counts) - 1) % self.length
        last = counts[len(counts) - 1 - now:]
        return [turn for turn, many in enumerate(last) for _ in range(many)], now

    def plain(self, counts):
        heard, now = self.heard_and_now(counts)
        if len(heard) > self.bells or len(heard) < self.bells and now == self.length - 1:
            return REFUSED
        if len(heard) < self.bells or counts[-1] == 0:
            return []
        messages = [message for message, reading in self.readings if reading == tuple(heard)]
        return messages if messages else REFUSED

    def keen(self, counts):
        heard, now = self.heard_and_now(counts)
        messages = self.possible(heard, now)
        if not messages:
            return REFUSED
        if len(messages) > 1:
            return []
        before = [turn for turn in heard if turn < now]
        if now > 0 and len(self.possible(before, now - 1)) == 1:
            return []
        return list(messages)


def all_counts(answer, most, turns):
    """All lists of counts up to so many turns, each ending in its first refusal at the latest."""
    growing = [[]]
    for _ in range(turns):
        longer = [counts + [many] for counts in growing for many in range(most + 1)]
        yield from longer
        growing = [counts for counts in longer if answer(counts) != REFUSED]


class BothByListing(unittest.TestCase):
    def assert_answers(self, frame, answer, make, turns):
        for counts in all_counts(answer, frame[1] + 1, turns):
            expected = [answer(counts[:end]) for end in range(1, len(counts) + 1)]
            self.assertEqual(answers(make(*frame), counts), expected, (frame, counts))

    def test_all_that_can_be_heard_of_one_message(self):
        for frame in talk_frames_up_to(4, 3, 2):
            listing = Listing(*frame)
            self.assert_answers(frame, listing.plain, Hearer, listing.length)
            self.assert_answers(frame, listing.keen, KeenHearer, listing.length)

    def test_all_that_can_be_heard_of_several_messages(self):
        for frame in talk_frames_up_to(3, 2, 1):
            listing = Listing(*frame)
            turns = 2 * listing.length + 1
            self.assert_answers(frame, listing.plain, Hearer, turns)
            self.assert_answers(frame, listing.keen, KeenHearer, turns)

    def test_talks_with_all_delays(self):
        for turns, bells, late in talk_frames_up_to(4, 2, 2):
            listing = Listing(turns, bells, late)
            for talk in talks_of(box_count(turns, bells, late), 2):
                row = rung(talk, turns, bells, late)
                for delays in product(range(late + 1), repeat=len(row)):
                    reading = sorted(turn + delay for turn, delay in zip(row, delays))
                    counts = counts_of(reading, 2 * listing.length)
                    for make, answer in ((Hearer, listing.plain), (KeenHearer, listing.keen)):
                        told = answers(make(turns, bells, late), counts)
                        self.assertEqual(told, [answer(counts[:end + 1]) for end in range(len(counts))])
                        self.assertEqual([message for some in told for message in some], talk)

    def test_somewhat_greater_frames(self):
        for frame in ((9, 2, 1), (9, 3, 2), (7, 4, 1), (6, 5, 1), (8, 2, 6), (5, 3, 9)):
            listing = Listing(*frame)
            for _, reading in listing.readings[::7]:
                counts = counts_of(reading, listing.length)
                for make, answer in ((Hearer, listing.plain), (KeenHearer, listing.keen)):
                    expected = [answer(counts[:end + 1]) for end in range(len(counts))]
                    self.assertEqual(answers(make(*frame), counts), expected, (frame, reading))


class Both(unittest.TestCase):
    def test_a_keen_hearer_is_a_hearer(self):
        self.assertEqual(KeenHearer.__bases__, (Hearer,))

    def test_no_frame_for_talks(self):
        for make in BOTH:
            for frame in ((0, 0, 0), (1, 0, 0), (5, 0, 2), (SIXTY_FIGURES, 0, SIXTY_FIGURES), (0, 1, 0),
                          (2, 3, 0), (2, 3, SIXTY_FIGURES), (59, 60, 1)):
                self.assertIs(refusal_of(make, *frame), NoRow, frame)
            for frame in ((1, 1, 0), (60, 60, 0), (60, 60, SIXTY_FIGURES), (SIXTY_FIGURES, 60, SIXTY_FIGURES)):
                self.assertIsNone(refusal_of(make, *frame), frame)

    def test_no_number_of_bells_is_none_of_them(self):
        for make in BOTH:
            told = make(6, 2, 1)
            silent = make(6, 2, 1)
            self.assertEqual([told.turn(), told.turn(1)], [silent.turn(0), silent.turn(1)])
            self.assertEqual(told.turn(), silent.turn(0))

    def test_below_nought(self):
        for make in BOTH:
            for many in (-1, -2, -SIXTY_FIGURES):
                for ahead in ([], [0], [1], [1, 0], [1, 1], [0, 0, 0, 2], [1, 1, 0, 0, 0, 0, 0]):
                    hearer = make(6, 2, 1)
                    self.assertNotIn(REFUSED, answers(hearer, ahead))
                    self.assertIs(refusal_of(hearer.turn, many), NoReading, (make, ahead, many))

    def test_more_bells_than_the_frame_has(self):
        for make in BOTH:
            for ahead in ([], [1], [1, 1], [0, 0, 0, 1], [1, 1, 0, 0, 0, 0]):
                for many in (3 - sum(ahead), 4, SIXTY_FIGURES):
                    hearer = make(6, 2, 1)
                    self.assertNotIn(REFUSED, answers(hearer, ahead))
                    self.assertIs(refusal_of(hearer.turn, many), NoReading, (make, ahead, many))

    def test_just_behind_a_message_the_next_one_begins(self):
        # Rows [0] and [2], four turns for each message.
        self.assertEqual(answers(Hearer(3, 1, 1), [0, 0, 0, 1, 1, 0, 0, 0]), [[], [], [], [1], [0], [], [], []])
        self.assertEqual(answers(KeenHearer(3, 1, 1), [0, 0, 0, 1, 1, 0, 0, 0]), [[], [1], [], [], [0], [], [], []])
        self.assertEqual(answers(Hearer(3, 1, 1), [0, 0, 0, 0, 1]), [[], [], [], REFUSED])
        self.assertEqual(answers(KeenHearer(3, 1, 1), [0, 0, 0, 0, 1]), [[], [1], [], REFUSED])

    def test_hearers_share_nothing(self):
        for make in BOTH:
            one = make(3, 1, 1)
            one.turn(0)
            other = make(3, 1, 1)
            self.assertEqual(other.turn(1), [0])
            one.turn(0)
            self.assertEqual(answers(other, [0, 0, 0, 1]), [[], [], [], [0]])
            self.assertIsNot(refusal_of(one.turn, 1), NoReading)

    def test_each_list_is_a_new_one(self):
        for make in BOTH:
            hearer = make(3, 1, 1)
            first = hearer.turn(1)
            self.assertEqual(first, [0])
            first.append(7)
            second = hearer.turn(0)
            self.assertEqual(second, [])
            second.append(8)
            self.assertEqual(answers(hearer, [0, 0, 1, 0]), [[], [], [0], []])
            self.assertEqual((first, second), ([0, 7], [8]))

    def test_a_long_talk(self):
        talk = [place * place % 6 for place in range(2000)]
        reading = [turn + place % 2 for place, turn in enumerate(rung(talk, 6, 2, 1))]
        counts = counts_of(sorted(reading), 2000 * 7)
        for make in BOTH:
            told = answers(make(6, 2, 1), counts)
            self.assertEqual(len(told), len(counts))
            for place, message in enumerate(talk):
                of_one = told[7 * place:7 * place + 7]
                self.assertEqual([some for some in of_one if some], [[message]])

    def test_sixty_bells(self):
        count = box_count(70, 60, 2)
        for message in (0, 1, count // 2, count - 1):
            row = written(message, 70, 60, 2)
            for delay in (0, 1, 2):
                counts = counts_of([turn + delay for turn in row], 72)
                for make in BOTH:
                    told = answers(make(70, 60, 2), counts + counts)
                    self.assertEqual([some for some in told if some], [[message], [message]])
                last = answers(Hearer(70, 60, 2), counts).index([message])
                self.assertEqual(last, row[-1] + delay)


class Plain(unittest.TestCase):
    def test_told_once_with_the_last_bell(self):
        self.assertEqual(answers(Hearer(6, 2, 1), [1, 0, 0, 1, 0, 0, 0]), [[], [], [], [1], [], [], []])
        self.assertEqual(answers(Hearer(6, 2, 1), [0, 2, 0, 0, 0, 0, 0]), [[], [0], [], [], [], [], []])

    def test_several_bells_in_one_turn(self):
        self.assertEqual(answers(Hearer(6, 2, 1), [0, 0, 0, 2]), [[], [], [], [2]])
        self.assertEqual(answers(Hearer(3, 3, 5), [0, 0, 3]), [[], [], [0]])

    def test_the_last_turn_of_a_message(self):
        counts = [0, 0, 0, 0, 1, 0, 1, 1, 1, 0, 0, 0, 0, 0]
        self.assertEqual(answers(Hearer(6, 2, 1), counts), [[], [], [], [], [], [], [5]] + [[], [0]] + [[]] * 5)

    def test_fewer_bells_are_refused_in_the_last_turn(self):
        self.assertEqual(answers(Hearer(6, 2, 1), [0] * 9), [[]] * 6 + [REFUSED])
        self.assertEqual(answers(Hearer(6, 2, 1), [0, 1] + [0] * 9), [[]] * 6 + [REFUSED])
        self.assertEqual(answers(Hearer(6, 2, 1), [0] * 6 + [1]), [[]] * 6 + [REFUSED])
        second = [1, 1, 0, 0, 0, 0, 0] + [1] + [0] * 9
        self.assertEqual(answers(Hearer(6, 2, 1), second), [[], [0]] + [[]] * 11 + [REFUSED])

    def test_what_cannot_be_read_is_refused_with_its_last_bell(self):
        self.assertEqual(answers(Hearer(6, 2, 1), [2]), [REFUSED])
        self.assertEqual(answers(Hearer(6, 2, 1), [0, 0, 2]), [[], [], REFUSED])
        # Three bells that can't come as early as that: it is seen with the third one alone.
        self.assertEqual(answers(Hearer(9, 3, 1), [2, 0, 0, 0, 1]), [[], [], [], [], REFUSED])

    def test_none_of_the_frame_s_messages(self):
        # Turn 6 lies in a part that is not whole.
        self.assertEqual(answers(Hearer(5, 1, 2), [0] * 6 + [1]), [[]] * 6 + [REFUSED])
        self.assertEqual(answers(Hearer(5, 1, 2), [0] * 5 + [1]), [[]] * 5 + [[1]])

    def test_more_bells_behind_the_message(self):
        self.assertEqual(answers(Hearer(6, 2, 1), [1, 1, 0, 1]), [[], [0], [], REFUSED])
        self.assertEqual(answers(Hearer(6, 2, 1), [1, 1, 0, 0, 0, 0, 1]), [[], [0], [], [], [], [], REFUSED])
        self.assertEqual(answers(Hearer(6, 2, 1), [1, 2]), [[], REFUSED])

    def test_one_message_in_the_frame(self):
        self.assertEqual(answers(Hearer(1, 1, 0), [1, 1, 1, 0]), [[0], [0], [0], REFUSED])
        self.assertEqual(answers(Hearer(1, 1, 2), [0, 0, 1, 0, 1, 0]), [[], [], [0], [], [0], []])

    def test_great_frames(self):
        hearer = Hearer(SIXTY_FIGURES, 60, 0)
        self.assertEqual(answers(hearer, [1] * 60), [[]] * 59 + [[0]])
        self.assertEqual(hearer.turn(0), [])
        self.assertIs(refusal_of(hearer.turn, 1), NoReading)
        self.assertEqual(answers(Hearer(SIXTY_FIGURES, 60, SIXTY_FIGURES), [1] * 61), [[]] * 59 + [[0], REFUSED])
        self.assertEqual(answers(Hearer(2, 2, SIXTY_FIGURES), [0, 2, 0, 1]), [[], [0], [], REFUSED])
        self.assertEqual(answers(Hearer(2, 2, SIXTY_FIGURES), [2]), [REFUSED])
        late = Hearer(SIXTY_FIGURES, 2, 10 ** 30)
        self.assertEqual(answers(late, [0, 1, 0, 1]), [[], [], [], [0]])
        self.assertIs(refusal_of(late.turn, SIXTY_FIGURES), NoReading)


class Keen(unittest.TestCase):
    def test_one_message_is_told_in_its_first_turn(self):
        self.assertEqual(answers(KeenHearer(2, 2, 3), [0, 0, 0, 0, 2, 1, 0, 0, 1, 0]),
                         [[0], [], [], REFUSED])
        self.assertEqual(answers(KeenHearer(2, 2, 3), [0, 0, 0, 2, 0, 1, 0, 0, 1, 0, 0]),
                         [[0], [], [], [], [], [0], [], [], [], [], [0]])
        self.assertEqual(answers(KeenHearer(1, 1, 0), [1, 1, 0]), [[0], [0], REFUSED])
        self.assertEqual(answers(KeenHearer(3, 3, 0), [1, 1, 1, 1]), [[0], [], [], [0]])

    def test_told_ahead_of_the_first_bell(self):
        # From turn 4 on both bells must come of the last part.
        self.assertEqual(answers(KeenHearer(6, 2, 1), [0, 0, 0, 0, 1, 1, 0]), [[], [], [], [5], [], [], []])

    def test_told_ahead_of_the_last_bell(self):
        self.assertEqual(answers(KeenHearer(6, 2, 1), [1, 0, 0, 0, 0, 1, 0]), [[], [], [], [], [3], [], []])
        self.assertEqual(answers(KeenHearer(6, 2, 1), [0, 0, 1, 0, 0, 0, 1]), [[], [], [], [], [4], [], []])

    def test_told_with_the_last_bell(self):
        self.assertEqual(answers(KeenHearer(6, 2, 1), [1, 0, 0, 1, 0, 0, 0]), [[], [], [], [1], [], [], []])
        self.assertEqual(answers(KeenHearer(6, 2, 1), [0, 0, 0, 2, 0, 0, 0]), [[], [], [], [2], [], [], []])

    def test_refused_in_the_first_turn_in_which_no_message_is_possible(self):
        # The first bell of the last message comes in turn 5 at the latest.
        self.assertEqual(answers(KeenHearer(6, 2, 1), [0] * 9), [[], [], [], [5], [], REFUSED])
        self.assertEqual(answers(KeenHearer(6, 2, 1), [0, 1] + [0] * 9), [[]] * 4 + [[3], [], REFUSED])
        self.assertEqual(answers(KeenHearer(6, 2, 1), [2]), [REFUSED])
        # Two bells come at once only within one part of both: that is seen ahead of the third one.
        self.assertEqual(answers(KeenHearer(9, 3, 1), [2]), [REFUSED])
        self.assertEqual(answers(KeenHearer(9, 3, 1), [0, 0, 2]), [[], [], REFUSED])

    def test_refused_behind_the_message_was_told(self):
        self.assertEqual(answers(KeenHearer(6, 2, 1), [1, 1, 0, 1]), [[], [0], [], REFUSED])
        self.assertEqual(answers(KeenHearer(6, 2, 1), [0, 0, 0, 0, 2]), [[], [], [], [5], REFUSED])
        self.assertEqual(answers(KeenHearer(6, 2, 1), [0, 0, 0, 0, 1, 0, 0]), [[], [], [], [5], [], [], REFUSED])
        self.assertEqual(answers(KeenHearer(6, 2, 1), [1, 1, 0, 0, 0, 0, 1]), [[], [0], [], [], [], [], REFUSED])

    def test_from_message_to_message(self):
        counts = [0, 0, 0, 0, 1, 0, 1] + [1, 1, 0, 0, 0, 0, 0] + [0, 0, 0, 0, 0, 2, 0] + [0, 0, 0, 2, 0, 0, 0]
        told = [[], [], [], [5], [], [], []] + [[], [0], [], [], [], [], []]
        told += [[], [], [], [5], [], [], []] + [[], [], [], [2], [], [], []]
        self.assertEqual(answers(KeenHearer(6, 2, 1), counts), told)

    def test_great_frames(self):
        for bells in (1, 2, 60):
            for turns in (bells, bells + 5, SIXTY_FIGURES):
                hearer = KeenHearer(turns, bells, SIXTY_FIGURES)
                self.assertEqual(hearer.turn(0), [0])
                self.assertEqual(hearer.turn(1), [])
                self.assertIs(refusal_of(hearer.turn, bells), NoReading)
        hearer = KeenHearer(SIXTY_FIGURES, 60, 0)
        self.assertEqual(answers(hearer, [1] * 60), [[]] * 59 + [[0]])
        self.assertIs(refusal_of(hearer.turn, 1), NoReading)
        self.assertEqual(answers(KeenHearer(SIXTY_FIGURES, 60, 10 ** 30), [0, 2, 0, 1, 0]), [[]] * 5)
        self.assertEqual(answers(KeenHearer(SIXTY_FIGURES, 60, 10 ** 30), [0, 2, 2]), [[], [], REFUSED])
        self.assertEqual(answers(KeenHearer(SIXTY_FIGURES, 60, 10 ** 30), [SIXTY_FIGURES]), [REFUSED])


if __name__ == "__main__":
    unittest.main()
