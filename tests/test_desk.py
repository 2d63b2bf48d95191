"""Promises [38] to [40], and [2] and [3] as far as they speak of the desk."""

import random
import re
import unittest
from itertools import product

from bellwrite.boxes import box_count
from bellwrite.costs import cheapest
from bellwrite.desk import Desk
from bellwrite.errors import NoName, NoNote, NoOrder, NoReading, NoRow, TooGreat
from bellwrite.frames import best_bells, shortest_frame
from bellwrite.lags import keyed, keyed_count
from bellwrite.messages import written
from bellwrite.notes import sent
from listing import SIXTY_FIGURES, all_heard, frames_up_to, refusal_of, talk_frames_up_to

SIXTY_NINES = "9" * 60
SIXTY_ONE_NINES = "9" * 61
ORDER_WORDS = "frame write read key unkey note hear short best cheap".split()
ANSWER_WORDS = "messages none note for turns and bells".split()
# The forms of all orders, written down once more in another way.
NUMBER = "(?:0|[1-9][0-9]{0,59})"
LONG_NUMBER = "(?:0|[1-9][0-9]{0,2999})"
UP_TO_SIXTY = "(?:[0-9]|[1-5][0-9]|60)"
NAME = "[a-z]{1,8}"
FORMS = re.compile("|".join((
    f"frame {NAME} {NUMBER} {UP_TO_SIXTY} {NUMBER}",
    f"(?:write|key) {NAME} {LONG_NUMBER}",
    f"(?:read|unkey|hear) {NAME}(?: {NUMBER})*",
    rf"note {NAME} [\s\S]*",
    f"short {UP_TO_SIXTY} {NUMBER} {LONG_NUMBER}",
    f"best {NUMBER} {NUMBER} {UP_TO_SIXTY}",
    f"cheap {LONG_NUMBER} {NUMBER} {NUMBER} {NUMBER} {UP_TO_SIXTY}",
)))


def is_order(text):
    if FORMS.fullmatch(text) is None:
        return False
    words = text.split(" ")
    heard = [int(word) for word in words[2:]] if words[0] in ("read", "unkey", "hear") else []
    return heard == sorted(heard)


def desk_of(**frames):
    desk = Desk()
    for name, frame in frames.items():
        desk.told(f"frame {name} {frame}")
    return desk


def as_words(turns):
    return " ".join(str(turn) for turn in turns) if turns else "none"


def order_of(word, name, turns):
    return " ".join([word, name] + [str(turn) for turn in turns])


class AtDesks(unittest.TestCase):
    def assert_told(self, desk, order, answer):
        told = desk.told(order)
        self.assertIs(type(told), str)
        self.assertTrue(told == answer, (order[:99], told[:99], answer[:99]))

    def assert_refused(self, desk, order, refusal):
        self.assertIs(refusal_of(desk.told, order), refusal, repr(order)[:99])


class Frames(AtDesks):
    def test_examples(self):
        desk = Desk()
        self.assert_told(desk, "frame a 6 2 1", "messages 6")
        self.assert_told(desk, "frame tower 12 3 3", "messages 10")

    def test_all_small_frames(self):
        desk = Desk()
        for turns, bells, late in frames_up_to(7, 8, 3):
            count = box_count(turns, bells, late)
            self.assert_told(desk, f"frame a {turns} {bells} {late}", f"messages {count}")

    def test_more_bells_than_turns(self):
        desk = Desk()
        self.assert_told(desk, "frame a 2 3 0", "messages 0")
        self.assert_refused(desk, "write a 0", TooGreat)
        self.assert_refused(desk, "read a", NoReading)
        self.assert_refused(desk, "read a 0 1 2", NoReading)
        self.assert_refused(desk, "key a 0", TooGreat)
        self.assert_refused(desk, "unkey a 0 1 2", NoReading)

    def test_great_frames(self):
        desk = Desk()
        for turns, bells, late in ((SIXTY_FIGURES, 60, 0), (SIXTY_FIGURES, 1, 0), (SIXTY_FIGURES, 60, SIXTY_FIGURES)):
            count = box_count(turns, bells, late)
            self.assert_told(desk, f"frame great {turns} {bells} {late}", f"messages {count}")

    def test_kept_anew(self):
        desk = desk_of(a="6 2 1", b="5 1 0")
        self.assert_told(desk, "write a 5", "4 5")
        self.assert_told(desk, "frame a 9 1 0", "messages 9")
        self.assert_told(desk, "write a 5", "5")
        self.assert_told(desk, "write b 4", "4")
        self.assert_told(desk, "frame a 2 3 0", "messages 0")
        self.assert_refused(desk, "write a 0", TooGreat)
        self.assert_told(desk, "frame a 6 2 1", "messages 6")
        self.assert_told(desk, "write a 5", "4 5")

    def test_many_names(self):
        desk = Desk()
        names = ["".join(letters) for letters in product("abxyz", repeat=3)]
        for turns, name in enumerate(names):
            self.assert_told(desk, f"frame {name} {turns} 1 0", f"messages {turns}")
        for turns, name in enumerate(names[1:]):
            self.assert_told(desk, f"write {name} {turns}", str(turns))
            self.assert_refused(desk, f"write {name} {turns + 1}", TooGreat)

    def test_names_of_one_to_eight_letters(self):
        desk = Desk()
        for letter in "abcdefghijklmnopqrstuvwxyz":
            for many in range(1, 9):
                self.assert_told(desk, f"frame {letter * many} 6 2 1", "messages 6")
            for many in (9, 10, 100):
                self.assert_refused(desk, f"frame {letter * many} 6 2 1", NoOrder)
        self.assert_told(desk, "frame campanil 6 2 1", "messages 6")
        self.assert_refused(desk, "frame campanile 6 2 1", NoOrder)

    def test_a_name_and_its_beginnings_are_unlike(self):
        desk = desk_of(abcdefgh="6 2 1")
        for end in range(1, 8):
            self.assert_refused(desk, f"write {'abcdefgh'[:end]} 0", NoName)
        self.assert_refused(desk, "write hgfedcba 0", NoName)
        self.assert_told(desk, "write abcdefgh 0", "0 1")

    def test_names_that_are_words_of_orders_and_answers(self):
        for name in ORDER_WORDS + ANSWER_WORDS:
            desk = Desk()
            self.assert_refused(desk, f"write {name} 5", NoName)
            self.assert_told(desk, f"frame {name} 6 2 1", "messages 6")
            self.assert_told(desk, f"write {name} 5", "4 5")
            self.assert_told(desk, f"read {name} 4 6", "5")
            self.assert_told(desk, f"key {name} 1", "0 4")
            self.assert_told(desk, f"unkey {name} 9 13", "1")
            self.assert_told(desk, f"note {name} g", "0 5 9 10 14 15")
            self.assert_told(desk, f"hear {name} 0 5 9 10 14 15", "note g")


class WriteAndRead(AtDesks):
    def test_all_messages_of_small_frames_between_two_desks(self):
        for turns, bells, late in frames_up_to(6, 3, 2):
            writer, reader = desk_of(a=f"{turns} {bells} {late}"), desk_of(b=f"{turns} {bells} {late}")
            count = box_count(turns, bells, late)
            for message in range(count):
                row = written(message, turns, bells, late)
                self.assert_told(writer, f"write a {message}", as_words(row))
                for came in all_heard(row, late):
                    self.assert_told(reader, order_of("read", "b", came), str(message))
            for message in (count, count + 1, 10 * count + 7):
                self.assert_refused(writer, f"write a {message}", TooGreat)

    def test_no_turns(self):
        desk = desk_of(none="5 0 1", one="5 1 1")
        self.assert_told(desk, "write none 0", "none")
        self.assert_told(desk, "read none", "0")
        self.assert_refused(desk, "read none 0", NoReading)
        self.assert_refused(desk, "read one", NoReading)
        self.assert_refused(desk, "write none 1", TooGreat)
        self.assert_refused(desk, "read none none", NoOrder)

    def test_one_turn(self):
        desk = desk_of(one="5 1 1")
        self.assert_told(desk, "write one 2", "4")
        self.assert_told(desk, "read one 5", "2")
        self.assert_refused(desk, "read one 6", NoReading)

    def test_what_is_not_read(self):
        desk = desk_of(a="6 2 1")
        for heard in ("", " 0", " 0 1 2", " 0 0", " 2 2", " 6 7", f" 0 {SIXTY_NINES}"):
            self.assert_refused(desk, f"read a{heard}", NoReading)

    def test_turns_heard_that_fall(self):
        desk = desk_of(a="6 2 1", b="9 3 1")
        for word in ("read", "unkey", "hear"):
            for heard in ("1 0", "6 4", "10 9", f"{SIXTY_NINES} 5"):
                self.assert_refused(desk, f"{word} a {heard}", NoOrder)
            for heard in ("0 2 1", "2 1 3", "1 1 0", "3 2 1"):
                self.assert_refused(desk, f"{word} b {heard}", NoOrder)
        # As numbers these rise, as texts they would fall.
        self.assert_told(desk_of(c="20 2 0"), "read c 9 10", "54")
        self.assert_told(desk, "read a 5 5", "5")

    def test_great_messages(self):
        writer, reader = desk_of(a=f"{SIXTY_NINES} 60 9"), desk_of(a=f"{SIXTY_NINES} 60 9")
        for message in (SIXTY_FIGURES, 10 ** 999, 10 ** 2999, 10 ** 3000 - 1):
            row = writer.told(f"write a {message}")
            self.assertTrue(row == as_words(written(message, SIXTY_FIGURES, 60, 9)))
            self.assert_told(reader, f"read a {row}", str(message))

    def test_an_answer_of_more_than_three_thousand_figures(self):
        desk = desk_of(a=f"{SIXTY_NINES} 60 0")
        last = range(SIXTY_FIGURES - 60, SIXTY_FIGURES)
        message = box_count(SIXTY_FIGURES, 60, 0) - 1
        self.assertGreater(message, 10 ** 3500)
        self.assert_told(desk, order_of("read", "a", last), str(message))


class KeyAndUnkey(AtDesks):
    def test_all_messages_of_small_frames_between_two_desks(self):
        for turns, bells, late in frames_up_to(7, 3, 2):
            writer, reader = desk_of(a=f"{turns} {bells} {late}"), desk_of(b=f"{turns} {bells} {late}")
            count = keyed_count(turns, bells, late)
            for message in range(count):
                row = keyed(message, turns, bells, late)
                self.assert_told(writer, f"key a {message}", as_words(row))
                for came in all_heard(row, late):
                    for lag in (0, 5, 10 ** 59):
                        order = order_of("unkey", "b", [turn + lag for turn in came])
                        self.assert_told(reader, order, str(message))
            for message in (count, count + 1, 10 * count + 7):
                self.assert_refused(writer, f"key a {message}", TooGreat)

    def test_what_is_not_unkeyed(self):
        desk = desk_of(a="6 2 1", silent="5 0 1", brief="0 1 1", one="5 1 1", prompt="6 2 0")
        for heard in ("", " 0", " 0 1 2", " 0 6", f" 0 {SIXTY_NINES}"):
            self.assert_refused(desk, f"unkey a{heard}", NoReading)
        for heard in ("", " 0", " 0 1"):
            self.assert_refused(desk, f"unkey silent{heard}", NoReading)
            self.assert_refused(desk, f"unkey brief{heard}", NoReading)
        self.assert_refused(desk, "unkey prompt 4 4", NoReading)
        self.assert_told(desk, "unkey prompt 4 5", "0")
        self.assert_told(desk, "unkey one 77", "0")

    def test_no_bell_or_no_turn(self):
        desk = desk_of(silent="5 0 1", brief="0 1 1", none="0 0 0")
        for name in ("silent", "brief", "none"):
            self.assert_refused(desk, f"key {name} 0", TooGreat)

    def test_great_messages(self):
        writer, reader = desk_of(a=f"{SIXTY_NINES} 60 9"), desk_of(a=f"{SIXTY_NINES} 60 9")
        for message in (SIXTY_FIGURES, 10 ** 2999, 10 ** 3000 - 1):
            row = writer.told(f"key a {message}")
            self.assertTrue(row == as_words(keyed(message, SIXTY_FIGURES, 60, 9)))
            self.assert_told(reader, f"unkey a {row}", str(message))


class NoteAndHear(AtDesks):
    NOTES = ("", "a", "z", "g", "bell", "ring at noon", " ", "  ", " a", "a ", "  a", "a  ", "a  b", " a  b ",
             "note a", "none", "the quick brown fox jumps over the lazy dog", "z" * 60, " " * 60, "a" + " " * 59)

    def test_examples(self):
        desk = desk_of(a="6 2 1")
        self.assert_told(desk, "note a g", "0 5 9 10 14 15")
        self.assert_told(desk, "hear a 1 6 9 11 15 15", "note g")

    def test_a_note_of_nothing(self):
        desk = desk_of(a="6 2 1")
        self.assert_told(desk, "note a ", "0 1")
        self.assert_told(desk, "hear a 0 1", "note ")
        self.assert_refused(desk, "note a", NoOrder)
        self.assert_told(desk, "note a  ", as_words(sent(" ", 6, 2, 1)))
        self.assert_told(desk, "note a   ", as_words(sent("  ", 6, 2, 1)))

    def test_there_and_back_between_two_desks(self):
        chance = random.Random(39)
        for turns, bells, late in ((3, 1, 0), (6, 2, 1), (9, 3, 2), (99, 60, 1), (10 ** 50, 5, 10 ** 20)):
            writer, reader = desk_of(a=f"{turns} {bells} {late}"), desk_of(b=f"{turns} {bells} {late}")
            for note in self.NOTES:
                row = sent(note, turns, bells, late)
                self.assert_told(writer, f"note a {note}", as_words(row))
                came = sorted(turn + chance.randint(0, late) for turn in row)
                self.assert_told(reader, order_of("hear", "b", came), f"note {note}")

    def test_numbers_behind_the_end_are_not_looked_at(self):
        desk = desk_of(a="6 2 1")
        self.assert_told(desk, f"hear a 0 1 7 7 7 {SIXTY_NINES}", "note ")
        self.assert_refused(desk, "hear a 0 1 6", NoReading)

    def test_what_is_no_note(self):
        desk = desk_of(a="6 2 1", silent="5 0 1", deaf="2 1 0")
        for note in ("A", "a1", "1", "a.b", "-", "~", "\t", "\n", "a\n", "a\tb", "\na", "a" * 61, " " * 61, "a" * 300):
            for name in ("a", "silent", "deaf"):
                self.assert_refused(desk, f"note {name} {note}", NoNote)

    def test_frames_in_which_no_note_is_sent(self):
        for turns, bells, late in frames_up_to(5, 6, 2):
            desk = desk_of(a=f"{turns} {bells} {late}")
            for note in ("", "a", " "):
                if bells == 0 or bells > turns:
                    self.assert_refused(desk, f"note a {note}", NoRow)
                elif box_count(turns, bells, late) < 3:
                    self.assert_refused(desk, f"note a {note}", TooGreat)
                else:
                    self.assert_told(desk, f"note a {note}", as_words(sent(note, turns, bells, late)))

    def test_frames_in_which_no_note_is_heard(self):
        silent = [(turns, bells, late) for turns, bells, late in frames_up_to(5, 6, 2)
                  if bells == 0 or bells > turns or box_count(turns, bells, late) < 3]
        great = [(SIXTY_FIGURES, 0, 0), (0, 60, SIXTY_FIGURES), (59, 60, 1), (60, 60, 1), (9, 3, SIXTY_FIGURES)]
        for turns, bells, late in silent + great:
            desk = desk_of(a=f"{turns} {bells} {late}")
            readings = [[], [0], [0, 1], [0, 1, 2], list(range(bells)), list(range(bells)) + [SIXTY_FIGURES]]
            for reading in readings:
                self.assert_refused(desk, order_of("hear", "a", reading), NoReading)

    def test_what_is_not_received(self):
        desk = desk_of(a="6 2 1", b="3 1 0")
        for heard in ("", " 0", " 0 0", " 0 1 2", " 4 5", " 4 5 7", " 4 5 14 15", f" {SIXTY_NINES}"):
            self.assert_refused(desk, f"hear a{heard}", NoReading)
        # Four hundred figures by the base 2, the last one no 0: the number is above that of sixty blanks.
        heard = [3 * place + 1 for place in range(399)] + [3 * 399 + 2, 3 * 400]
        self.assert_refused(desk, order_of("hear", "b", heard), NoReading)
        heard[399] -= 1
        self.assert_told(desk, order_of("hear", "b", heard), "note ")


class Choices(AtDesks):
    def test_short(self):
        desk = Desk()
        self.assert_told(desk, "short 2 1 6", "6")
        self.assert_told(desk, "short 0 1 2", "none")
        self.assert_told(desk, "short 0 1 1", "0")
        self.assert_told(desk, "short 0 1 0", "0")
        self.assert_told(desk, "short 60 0 1", "60")
        for bells, late, many in product(range(5), range(4), range(12)):
            turns = shortest_frame(bells, late, many)
            self.assert_told(desk, f"short {bells} {late} {many}", "none" if turns is None else str(turns))

    def test_best(self):
        desk = Desk()
        self.assert_told(desk, "best 6 0 6", "3")
        self.assert_told(desk, "best 0 0 0", "0")
        self.assert_told(desk, f"best {SIXTY_NINES} 0 60", "60")
        for turns, most, late in frames_up_to(9, 9, 3):
            self.assert_told(desk, f"best {turns} {late} {most}", str(best_bells(turns, late, most)))

    def test_cheap(self):
        desk = Desk()
        self.assert_told(desk, "cheap 6 1 1 1 6", "8 for 6 turns and 2 bells")
        self.assert_told(desk, "cheap 6 1 1 9 6", "20 for 11 turns and 1 bells")
        self.assert_told(desk, "cheap 2 0 0 0 1", "0 for 2 turns and 1 bells")
        self.assert_told(desk, "cheap 1 5 7 7 60", "0 for 0 turns and 0 bells")
        self.assert_told(desk, "cheap 2 1 1 1 0", "none")
        for many, late, turn_cost, bell_cost, most in product((0, 1, 2, 7), (0, 2), (0, 1, 3), (0, 1, 4), (0, 1, 2, 5)):
            found = cheapest(many, late, turn_cost, bell_cost, most)
            answer = "none" if found is None else f"{found[0]} for {found[1]} turns and {found[2]} bells"
            self.assert_told(desk, f"cheap {many} {late} {turn_cost} {bell_cost} {most}", answer)

    def test_great_numbers(self):
        desk = Desk()
        many = 10 ** 3000 - 1
        for bells in (1, 2, 60):
            turns = shortest_frame(bells, SIXTY_FIGURES, many)
            self.assert_told(desk, f"short {bells} {SIXTY_NINES} {many}", str(turns))
        cost, turns, bells = cheapest(many, SIXTY_FIGURES, SIXTY_FIGURES, SIXTY_FIGURES, 60)
        order = f"cheap {many} {SIXTY_NINES} {SIXTY_NINES} {SIXTY_NINES} 60"
        self.assert_told(desk, order, f"{cost} for {turns} turns and {bells} bells")


class Numbers(AtDesks):
    # Each place of a number, M's marked by !, and the bells' and the mosts' by ?.
    PLACES = ("frame b * 2 1", "frame b 6 ? 1", "frame b 6 2 *", "write a !", "key a !", "read a *", "read a 4 *",
              "unkey a *", "unkey a 4 *", "hear a *", "hear a 0 1 *", "short ? 1 6", "short 2 * 6", "short 2 1 !",
              "best * 0 6", "best 6 * 6", "best 6 0 ?", "cheap ! 1 1 1 6", "cheap 6 * 1 1 6", "cheap 6 1 * 1 6",
              "cheap 6 1 1 * 6", "cheap 6 1 1 1 ?")

    def put(self, place, number):
        return re.sub(r"[*!?]", number, place)

    def assert_order(self, order):
        self.assertIsNot(refusal_of(desk_of(a="6 2 1").told, order), NoOrder, order[:99])

    def assert_no_order(self, order):
        self.assert_refused(desk_of(a="6 2 1"), order, NoOrder)

    def test_sixty_figures_and_sixty_one(self):
        for place in self.PLACES:
            if "*" in place:
                for number in (SIXTY_NINES, "1" + "0" * 59):
                    self.assert_order(self.put(place, number))
                for number in (SIXTY_ONE_NINES, "1" + "0" * 60, "9" * 3000, "9" * 9999):
                    self.assert_no_order(self.put(place, number))

    def test_messages_of_three_thousand_figures_and_one_more(self):
        for place in self.PLACES:
            if "!" in place:
                for number in (SIXTY_ONE_NINES, "9" * 3000, "1" + "0" * 2999):
                    self.assert_order(self.put(place, number))
                for number in ("9" * 3001, "1" + "0" * 3000, "9" * 4301, "9" * 90000):
                    self.assert_no_order(self.put(place, number))

    def test_sixty_bells_and_one_more(self):
        for place in self.PLACES:
            if "?" in place:
                for number in ("0", "1", "59", "60"):
                    self.assert_order(self.put(place, number))
                for number in ("61", "62", "100", "600", SIXTY_NINES, SIXTY_ONE_NINES):
                    self.assert_no_order(self.put(place, number))

    def test_what_is_no_number(self):
        for place in self.PLACES:
            for number in ("00", "01", "007", "0" * 60, "00000", "+5", "-1", "-0", "5.0", "5.", "1e1", "0x5", "5_0", "_",
                           "five", "a", "none", "5a", "a5", "5,", "\t5", "5\t", "5\n", "\n5", "\t", "\n", "", " 5", "5 ",
                           " ", "\u0665", "\u00b2", "\uff15", "True"):
                self.assert_no_order(self.put(place, number))

    def test_nought_itself(self):
        for place in self.PLACES:
            if " 4 " not in place and " 1 *" not in place:
                self.assert_order(self.put(place, "0"))
        self.assert_told(Desk(), "frame a 0 0 0", "messages 1")


class NoOrders(AtDesks):
    def assert_all_refused(self, orders):
        for order in orders:
            self.assert_refused(desk_of(a="6 2 1", b="5 0 0"), order, NoOrder)

    def test_what_is_no_text(self):
        things = (None, True, False, 0, 1, -1, SIXTY_FIGURES, 1.5, b"write a 5", [], ["write a 5"], ["write", "a", "5"],
                  (), ("write", "a", "5"), {}, {"write a 5": 1}, {1}, str, object())
        for thing in things:
            with self.assertRaises(NoOrder) as refused:
                desk_of(a="6 2 1").told(thing)
            self.assertIs(type(refused.exception), NoOrder)

    def test_nothing_and_blanks(self):
        self.assert_all_refused(["", " ", "  ", "\t", "\n", " " * 99999])

    def test_unknown_words(self):
        self.assert_all_refused(["a", "tell a 5", "Write a 5", "WRITE a 5", "writ a 5", "writes a 5", "none", "messages",
                                 "messages 6", "keep a 6 2 1", "frames a 6 2 1", "5", "5 5 5", "a 5", "notea", "hears a",
                                 "crowd a", "keyed a 1", "shortest 2 1 6", "cheapest 6 1 1 1 6", "open a", "write,a,5"])

    def test_words_too_few_and_too_many(self):
        self.assert_all_refused(ORDER_WORDS)
        self.assert_all_refused([
            "frame a", "frame a 6", "frame a 6 2", "frame 6 2 1", "frame a 6 2 1 0", "frame a a 6 2 1", "frame a b",
            "write a", "write 5", "write a 5 5", "write a b 5", "write a 5 a", "key a", "key 1", "key a 1 1",
            "read 4 6", "unkey 0 4", "hear 0 1", "read a b", "read a 4 6 a", "hear a b", "unkey a a 0 4",
            "note a", "note", "short 2 1", "short 2 1 6 6", "short a 2 1 6", "short 2", "best 6 0", "best 6 0 6 6",
            "best a 6 0 6", "best 6", "cheap 6 1 1 1", "cheap 6 1 1", "cheap 6 1 1 1 6 6", "cheap a 6 1 1 1 6",
        ])

    def test_doubled_blanks_and_blanks_ahead_and_behind(self):
        for order in ("frame a 6 2 1", "write a 5", "read a 4 6", "read b", "key a 1", "unkey a 0 4", "hear a 0 1",
                      "short 2 1 6", "best 6 0 6", "cheap 6 1 1 1 6"):
            self.assertIsNone(refusal_of(desk_of(a="6 2 1", b="5 0 0").told, order))
            self.assert_all_refused([" " + order, order + " ", "  " + order, order + "  ", " " + order + " "])
            for place in [place for place, sign in enumerate(order) if sign == " "]:
                self.assert_all_refused([order[:place] + " " + order[place:], order[:place] + "  " + order[place:]])
        self.assert_all_refused([" note a g", "note  a g", "  note a g", "note  a", "note ", "note  "])

    def test_other_signs_at_each_place(self):
        for order in ("frame a 6 2 1", "write a 5", "read a 4 6", "read b", "key a 1", "unkey a 0 4", "hear a 0 1",
                      "short 2 1 6", "best 6 0 6", "cheap 6 1 1 1 6"):
            for place in range(len(order) + 1):
                for sign in "\t\nA_-+.,~!":
                    self.assert_all_refused([order[:place] + sign + order[place:]])
            for sign in "\t\n":
                self.assert_all_refused([order.replace(" ", sign), order.replace(" ", sign, 1)])

    def test_other_signs_ahead_of_a_note(self):
        for place in range(len("note a") + 1):
            for sign in "\t\nA_-+.,~!0":
                self.assert_all_refused(["note a"[:place] + sign + "note a"[place:] + " g"])
        self.assert_all_refused(["note\ta g", "note a\tg", "note a\n", "note a\ng", "note 5 g", "note A g", "note a-b g"])

    def test_what_is_no_name(self):
        for name in ("A", "aB", "a1", "1a", "7", "a_b", "a-b", "a.", "", "abcdefghi", "a" * 99, "a\n", "\ta", "\u00e4",
                     "\u0430", "~"):
            self.assert_all_refused([f"frame {name} 6 2 1", f"write {name} 5", f"key {name} 1", f"read {name} 4 6",
                                     f"unkey {name} 0 4", f"hear {name} 0 1", f"note {name} g", f"read {name}",
                                     f"note {name} "])

    def test_any_words_in_any_order(self):
        chance = random.Random(40)
        pool = ["a", "a", "b", "zz", "0", "1", "2", "5", "6", "60", "61", "05", "none", "abcdefgh", "abcdefghi", "", "A",
                "read", "note", "4", SIXTY_NINES, SIXTY_ONE_NINES]
        desk = desk_of(a="6 2 1", b="5 0 0")
        orders = 0
        for _ in range(30000):
            words = [chance.choice(pool) for _ in range(chance.randrange(6))]
            order = " ".join([chance.choice(ORDER_WORDS)] + words)
            refused = refusal_of(desk.told, order) is NoOrder
            self.assertEqual(refused, not is_order(order), order)
            orders += not refused
        self.assertGreater(orders, 1000)


class Refusals(AtDesks):
    def test_names_by_which_nothing_is_kept(self):
        for desk in (Desk(), desk_of(a="6 2 1")):
            for order in ("write x 5", "read x 4 6", "read x", "key x 1", "unkey x 0 4", "unkey x", "hear x 0 1", "hear x",
                          "note x g", "note x ", "write frame 0", "read aa", "write abcdefgh 0"):
                self.assert_refused(desk, order, NoName)

    def test_what_is_no_order_goes_ahead_of_the_name(self):
        for desk in (Desk(), desk_of(a="6 2 1")):
            for order in ("write x 05", "write x", "write x 5 5", "read x 6 4", "read x ", "unkey x 4 0", "hear x 1 0",
                          "note x", f"read x {SIXTY_ONE_NINES}", f"write x {'9' * 3001}", "key x -1", "hear x a"):
                self.assert_refused(desk, order, NoOrder)

    def test_the_name_goes_ahead_of_what_the_points_refuse(self):
        desk = desk_of(a="6 2 1")
        for order in (f"write x {'9' * 3000}", "read x 0 0 0", "key x 99", "unkey x", "hear x", "note x A", "note x \n",
                      f"note x {'a' * 61}"):
            self.assert_refused(desk, order, NoName)

    def test_a_refused_frame_is_not_kept(self):
        desk = Desk()
        for order in ("frame a 6 61 1", "frame a 6 2", "frame a 6 2 01", "frame a 6 2 1 ", f"frame a {SIXTY_ONE_NINES} 2 1"):
            self.assert_refused(desk, order, NoOrder)
            self.assert_refused(desk, "write a 0", NoName)

    def test_what_is_refused_leaves_the_desk_as_it_was(self):
        asked = ("write a 5", "write b 0", "read a 4 6", "key a 1", "note a ring", "read c", "write d 0")
        refused = ("frame a 6 61 1", "frame a 7 2 01", "frame a 7 2 1 ", "frame a 9 3", "frame a 9 3 x", "frame b 1 1 1 1",
                   "write a 6", "write b 1", "read a 0 0", "read a 1 0", "key a 2", "unkey a", "hear b", "note a A", "note b a",
                   "note a", "write e 0", "frame c 61 61 0", "frame d 60 1 ", "", None, 7, "hear a 0", "cheap 1 1 1 1 61")
        desk = desk_of(a="6 2 1", b="5 0 0", c="9 0 2")

        def answers():
            told = []
            for order in asked:
                refusal = refusal_of(desk.told, order)
                told.append(desk.told(order) if refusal is None else refusal)
            return told

        before = answers()
        self.assertEqual(before[-1], NoName)
        for order in refused:
            self.assertIsNotNone(refusal_of(desk.told, order), order)
            self.assertEqual(answers(), before, order)

    def test_an_answered_order_changes_nothing_but_frame(self):
        desk = desk_of(a="6 2 1")
        for _ in range(3):
            self.assert_told(desk, "write a 5", "4 5")
            self.assert_told(desk, "read a 5 5", "5")
            self.assert_told(desk, "note a g", "0 5 9 10 14 15")
            self.assert_told(desk, "hear a 0 5 9 10 14 15", "note g")
            self.assert_told(desk, "key a 1", "0 4")
            self.assert_told(desk, "unkey a 0 4", "1")
            self.assert_told(desk, "best 9 0 9", "4")


class Desks(AtDesks):
    def test_two_desks_know_nothing_of_one_another(self):
        one, other = Desk(), Desk()
        self.assert_told(one, "frame a 6 2 1", "messages 6")
        self.assert_refused(other, "write a 5", NoName)
        self.assert_told(other, "frame a 9 1 0", "messages 9")
        self.assert_told(one, "write a 5", "4 5")
        self.assert_told(other, "write a 5", "5")
        self.assert_told(other, "frame b 3 1 0", "messages 3")
        self.assert_refused(one, "write b 0", NoName)
        self.assert_refused(Desk(), "write a 0", NoName)

    def test_orders_of_many_signs(self):
        desk = desk_of(a="6 2 1", b="3 1 0", c=f"{SIXTY_NINES} 60 0")
        rising = as_words(range(15000))
        self.assertGreater(len(rising), 70000)
        for word in ("read", "unkey", "hear"):
            self.assert_refused(desk, f"{word} a {rising}", NoReading)
            self.assert_refused(desk, f"{word} a {rising} 0", NoOrder)
            self.assert_refused(desk, f"{word} a {rising} ", NoOrder)
            self.assert_refused(desk, f"{word} x {rising}", NoName)
            self.assert_refused(desk, f"{word} a{' 7' * 49000}", NoReading)
            self.assert_refused(desk, f"{word} c{(' ' + SIXTY_NINES) * 1600}", NoReading)
        self.assert_refused(desk, f"note a {'a' * 99000}", NoNote)
        self.assert_refused(desk, f"note a {' ' * 99000}", NoNote)
        self.assert_refused(desk, f"write a {'5' * 99000}", NoOrder)
        self.assert_refused(desk, f"write {'a' * 99000} 5", NoOrder)
        self.assert_refused(desk, "a" * 100000, NoOrder)
        # Thousands of parts that are 0 ahead of the message 0: the note of nothing.
        heard = [3 * place + 1 for place in range(14000)] + [3 * 14000]
        order = order_of("hear", "b", heard)
        self.assertGreater(len(order), 70000)
        self.assert_told(desk, order, "note ")
        self.assert_told(desk, f"hear a 0 1 {as_words(range(7, 15000))}", "note ")

    def test_orders_of_ten_thousand_signs_there_and_back(self):
        # Base 2, and turns of some sixty figures: an answer of about ten thousand signs.
        desk = desk_of(a=f"{3 * 10 ** 50} 1 {10 ** 50 - 1}")
        note = "the bells ring late over the hills and nobody knows how late"
        row = desk.told(f"note a {note}")
        self.assertGreater(len(row), 10000)
        self.assert_told(desk, f"hear a {row}", f"note {note}")


if __name__ == "__main__":
    unittest.main()
