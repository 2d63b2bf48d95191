"""Hearers: each turn they are told how many bells are heard in it, and tell the message that is then known."""

from bellwrite.boxes import greatest_part, heard_box
from bellwrite.errors import NoReading
from bellwrite.messages import read
from bellwrite.talks import refuse_silent


class Hearer:
    def __init__(self, turns, bells, late):
        refuse_silent(turns, bells)
        self.turns = turns
        self.bells = bells
        self.late = late
        self.now = 0
        self.reading = []
        self.known = False

    def turn(self, many=0):
        if many < 0:
            raise NoReading("no fewer bells than none can be heard")
        # Asked ahead of making the list, as a great number of bells would make too long a one.
        if len(self.reading) + many > self.bells:
            raise NoReading("more bells of a message are heard than it has")
        reading = self.reading + [self.now] * many
        known = self.knows(reading)
        messages = []
        if known and not self.known:
            messages.append(read(self.earliest(reading), self.turns, self.bells, self.late))
        self.go_on(reading, known)
        return messages

    def knows(self, reading):
        whole = len(reading) == self.bells
        if self.is_last_turn() and not whole:
            raise NoReading("a message ends ahead of the last one of its bells")
        return whole

    def earliest(self, reading):
        # The bells that are still to come are heard from the next turn on, each behind the one before.
        missing = self.bells - len(reading)
        return reading + [self.now + 1 + place for place in range(missing)]

    def is_last_turn(self):
        return self.now == self.turns + self.late - 1

    def go_on(self, reading, known):
        if self.is_last_turn():
            self.now = 0
            self.reading = []
            self.known = False
        else:
            self.now = self.now + 1
            self.reading = reading
            self.known = known


class KeenHearer(Hearer):
    def knows(self, reading):
        # The part in which a bell is heard is the one in which it was rung. So what was heard is settled,
        # and the bells to come lie between the parts of the earliest reading that is left and the frame's last part.
        least = heard_box(self.earliest(reading), self.late)[-1]
        greatest = greatest_part(self.turns, self.bells, self.late)
        if least > greatest:
            raise NoReading("what is heard begins none of the frame's messages")
        return len(reading) == self.bells or least == greatest
