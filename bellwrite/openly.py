"""Messages in rows of any number of bells up to a most: the number of bells heard tells a part of the message."""

from bellwrite.boxes import box_count
from bellwrite.errors import NoReading, TooGreat
from bellwrite.messages import read, written


def open_count(turns, most, late):
    return sum([box_count(turns, bells, late) for bells in range(most + 1)])


def written_openly(message, turns, most, late):
    if message < 0:
        raise TooGreat("a message is a whole number from 0 on")
    left = message
    for bells in range(most + 1):
        many = box_count(turns, bells, late)
        if left < many:
            return written(left, turns, bells, late)
        left = left - many
    raise TooGreat("rows of so many bells have no such message")


def read_openly(reading, turns, most, late):
    bells = len(reading)
    if bells > most:
        raise NoReading("more bells are heard than the most that are rung")
    return open_count(turns, bells - 1, late) + read(reading, turns, bells, late)
