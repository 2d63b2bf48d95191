"""Several ropes: their bells sound unlike, so a message is rung figure by figure, each on a rope of its own."""

from bellwrite.boxes import box_count, box_of
from bellwrite.errors import NoReading, TooGreat
from bellwrite.messages import read, written
from bellwrite.rows import alike, reading_of_both


def belfry_count(frames):
    count = 1
    for turns, bells, late in frames:
        count = count * box_count(turns, bells, late)
    return count


def peal_written(message, frames):
    if message < 0 or message >= belfry_count(frames):
        raise TooGreat("the belfry has no such message")
    peal = []
    left = message
    for turns, bells, late in frames:
        count = box_count(turns, bells, late)
        peal.append(written(left % count, turns, bells, late))
        left = left // count
    return peal


def peal_read(readings, frames):
    if len(readings) != len(frames):
        raise NoReading("not as many readings are heard as the belfry has ropes")
    message = 0
    weight = 1
    for place, reading in enumerate(readings):
        turns = frames[place][0]
        bells = frames[place][1]
        late = frames[place][2]
        message = message + weight * read(reading, turns, bells, late)
        weight = weight * box_count(turns, bells, late)
    return message


def peals_alike(one, other, frames):
    for row, second_row, frame in zip(one, other, frames):
        if not alike(row, second_row, frame[2]):
            return False
    return True


def peal_crowd(peals, frames):
    seen = {}
    for second, peal in enumerate(peals):
        boxes = boxes_of_peal(peal, frames)
        if boxes in seen:
            first = seen[boxes]
            return (first, second, hearing_of_both(peals[first], peal, frames))
        seen[boxes] = second
    return None


def boxes_of_peal(peal, frames):
    return tuple([tuple(box_of(row, frame[2])) for row, frame in zip(peal, frames)])


def hearing_of_both(one, other, frames):
    return [reading_of_both(row, second_row, frame[2]) for row, second_row, frame in zip(one, other, frames)]
