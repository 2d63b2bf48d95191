"""Messages: whole numbers, each written in a frame as the bell row of the box that bears its number."""

from bellwrite.boxes import bell_row, box_count, heard_box
from bellwrite.choices import above_top, choose, top_from
from bellwrite.errors import NoReading, TooGreat


def box_number(box):
    return sum([choose(part + place, place + 1) for place, part in enumerate(box)])


def box_of_message(message, bells):
    if message < 0 or bells == 0 and message != 0:
        raise TooGreat("no box of so many bells has that number")
    box = [0] * bells
    left = message
    top = message + bells
    for place in range(bells - 1, -1, -1):
        # All places below add up to less than one step of this part, so it is the greatest one that fits.
        # As no part is above the next one, each top is below the one before, which is often a near start.
        top = top_from(min(top - 1, above_top(place + 1, left)), place + 1, left)
        box[place] = top - place
        left = left - choose(top, place + 1)
    return box


def written(message, turns, bells, late):
    if message < 0 or message >= box_count(turns, bells, late):
        raise TooGreat("the frame has no such message")
    return bell_row(box_of_message(message, bells), late)


def read(reading, turns, bells, late):
    if len(reading) != bells:
        raise NoReading("not as many bells are heard as the frame has")
    message = box_number(heard_box(reading, late))
    if message >= box_count(turns, bells, late):
        raise NoReading("what is heard is none of the frame's messages")
    return message
