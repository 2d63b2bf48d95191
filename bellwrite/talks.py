"""Talks: messages rung one behind another, each in turns enough for the last of its bells to come."""

from bellwrite.errors import NoReading, NoRow
from bellwrite.messages import read, written


def refuse_silent(turns, bells):
    # A message without bells leaves no trace, so nobody could tell how many such ones a talk has.
    if bells == 0 or bells > turns:
        raise NoRow("a talk needs a frame with a bell at least and no more bells than turns")


def rung(messages, turns, bells, late):
    refuse_silent(turns, bells)
    talk = []
    for place, message in enumerate(messages):
        start = place * (turns + late)
        talk.extend([start + turn for turn in written(message, turns, bells, late)])
    return talk


def by_messages(reading, turns, late):
    # For each message of which something is heard, by its place in the talk, a reading as if it were rung alone.
    length = turns + late
    heard_of = {}
    for turn in reading:
        heard_of.setdefault(turn // length, []).append(turn % length)
    return heard_of


def talk_heard(reading, many, turns, bells, late):
    heard_of = by_messages(reading, turns, late)
    # Each message has a bell at least: with as many places heard as messages, either they are just the talk's
    # own ones, or one of those was heard nothing of, which is refused below.
    if len(heard_of) != many:
        raise NoReading("not as many messages are heard as the talk has")
    return [read(heard_of.get(place, []), turns, bells, late) for place in range(many)]
