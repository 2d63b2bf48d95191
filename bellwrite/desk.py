"""The desk: it keeps frames by names, and answers orders, which are texts, by texts."""

from bellwrite.boxes import box_count
from bellwrite.costs import cheapest
from bellwrite.errors import NoName, NoOrder, NoReading
from bellwrite.frames import best_bells, shortest_frame
from bellwrite.lags import keyed, unkeyed
from bellwrite.messages import read, written
from bellwrite.notes import LEAST_COUNT, received, sent
from bellwrite.words import bells_in, message_in, name_in, number_in, number_told, turns_in, turns_told


class Frame:
    def __init__(self, turns, bells, late):
        self.turns = turns
        self.bells = bells
        self.late = late


class Desk:
    def __init__(self):
        self.frames = {}

    def told(self, order):
        if not isinstance(order, str):
            raise NoOrder("an order is a text")
        words = order.split(" ")
        if words[0] == "frame" and len(words) == 5:
            return self.keep(words)
        if words[0] in ("write", "key") and len(words) == 3:
            return self.ring(words)
        if words[0] in ("read", "unkey", "hear") and len(words) >= 2:
            return self.listen(words)
        if words[0] == "note" and len(words) >= 3:
            # A note may hold blanks of its own, so behind the name nothing is parted.
            return self.send_note(order.split(" ", 2))
        return choice_told(words)

    def keep(self, words):
        name = name_in(words[1])
        frame = Frame(number_in(words[2]), bells_in(words[3]), number_in(words[4]))
        self.frames[name] = frame
        count = count_of(frame)
        return f"messages {count}"

    def ring(self, words):
        # Here and below all words are looked at ahead of the name's frame, as what is no order is refused first.
        name = name_in(words[1])
        message = message_in(words[2])
        frame = self.kept(name)
        if words[0] == "key":
            return turns_told(keyed(message, frame.turns, frame.bells, frame.late))
        return turns_told(written(message, frame.turns, frame.bells, frame.late))

    def listen(self, words):
        name = name_in(words[1])
        reading = turns_in(words[2:])
        frame = self.kept(name)
        if words[0] == "read":
            return number_told(read(reading, frame.turns, frame.bells, frame.late))
        if words[0] == "unkey":
            return number_told(unkeyed(reading, frame.turns, frame.bells, frame.late))
        return "note " + note_heard(reading, frame)

    def send_note(self, words):
        frame = self.kept(name_in(words[1]))
        return turns_told(sent(words[2], frame.turns, frame.bells, frame.late))

    def kept(self, name):
        if name not in self.frames:
            raise NoName("no frame is kept by that name")
        return self.frames[name]


def count_of(frame):
    return box_count(frame.turns, frame.bells, frame.late)


def note_heard(reading, frame):
    # A frame without bells has one message, one with more bells than turns has none: so these are refused here, too.
    if count_of(frame) < LEAST_COUNT:
        raise NoReading("a note needs a frame of three messages at least")
    return received(reading, frame.turns, frame.bells, frame.late)


def choice_told(words):
    if words[0] == "short" and len(words) == 4:
        return number_told(shortest_frame(bells_in(words[1]), number_in(words[2]), message_in(words[3])))
    if words[0] == "best" and len(words) == 4:
        return number_told(best_bells(number_in(words[1]), number_in(words[2]), bells_in(words[3])))
    if words[0] == "cheap" and len(words) == 6:
        return cheapest_told(words)
    raise NoOrder("there is no such order")


def cheapest_told(words):
    many = message_in(words[1])
    late = number_in(words[2])
    found = cheapest(many, late, number_in(words[3]), number_in(words[4]), bells_in(words[5]))
    if found is None:
        return "none"
    cost = found[0]
    turns = found[1]
    bells = found[2]
    return f"{cost} for {turns} turns and {bells} bells"
