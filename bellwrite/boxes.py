"""Boxes: the rows that share one are alike, and each has a bell row of its own that is heard apart from all others."""

from bellwrite.choices import choose
from bellwrite.errors import NoReading


def box_of(row, late):
    return [(turn - place) // (late + 1) for place, turn in enumerate(row)]


def bell_row(box, late):
    return [part * (late + 1) + place for place, part in enumerate(box)]


def heard_box(reading, late):
    # A bell that is rung in the first turn of a part comes within that part, even with the greatest delay.
    # So the parts in which the bells are heard are the only ones in which they can have been rung.
    box = box_of(reading, late)
    before = 0
    for part in box:
        if part < before:
            raise NoReading("the parts in which the bells are heard are those of no box")
        before = part
    return box


def box_count(turns, bells, late):
    if bells > turns:
        return 0
    return choose(greatest_part(turns, bells, late) + bells, bells)


def greatest_part(turns, bells, late):
    return (turns - bells) // (late + 1)
