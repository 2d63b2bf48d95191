"""Keyed rows: their first bell stands in turn 0, so they are read though all bells come later by an unknown lag."""

from bellwrite.boxes import box_count
from bellwrite.errors import NoReading, TooGreat
from bellwrite.messages import read, written


def keyed_count(turns, bells, late):
    if bells == 0 or turns == 0:
        return 0
    return box_count(turns - 1, bells - 1, 2 * late)


def keyed(message, turns, bells, late):
    if message < 0 or message >= keyed_count(turns, bells, late):
        raise TooGreat("no keyed row of the frame has such a message")
    behind_key = written(message, turns - 1, bells - 1, 2 * late)
    return [0] + [turn + 1 for turn in behind_key]


def unkeyed(reading, turns, bells, late):
    if bells == 0 or turns == 0 or len(reading) != bells:
        raise NoReading("not as many bells are heard as a keyed row of the frame has")
    # The first bell heard may itself be late, by up to the lateness. With its turn less the lateness taken
    # for turn 0 no other bell comes too early, and none is late by more than twice the lateness.
    start = reading[0] - late + 1
    behind_key = [turn - start for turn in reading[1:]]
    return read(behind_key, turns - 1, bells - 1, 2 * late)
