"""Rows of bells, and what can be heard of them behind a road that delays."""

from bellwrite.errors import NoRow


def row_of(turns, bells):
    before = -1
    for turn in bells:
        if turn <= before or turn >= turns:
            raise NoRow("the turns of a row rise, from 0 to below the turns of its frame")
        before = turn
    return list(bells)


def heard(row, delays):
    return sorted([turn + delay for turn, delay in zip(row, delays)])


def can_come(row, reading, late):
    if len(row) != len(reading):
        return False
    # Bells sound alike, so whichever overtook, the first one heard may be taken for the first one rung, and so on.
    for rung, came in zip(row, reading):
        if came < rung or came > rung + late:
            return False
    return True


def alike(one, other, late):
    if len(one) != len(other):
        return False
    # Each bell of both may be heard with the later one of its two, if that is not too late for the earlier one.
    # So no reading need be made, and a long list of rows is soon walked through pair by pair.
    for first, second in zip(one, other):
        if abs(first - second) > late:
            return False
    return True


def reading_of_both(one, other, late):
    # A reading of both has no bell ahead of either row's, so if any one can come, the earliest such can.
    earliest = [max(first, second) for first, second in zip(one, other)]
    if can_come(one, earliest, late) and can_come(other, earliest, late):
        return earliest
    return None
