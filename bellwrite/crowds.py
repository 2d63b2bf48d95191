"""Lists of rows: whether each is heard apart from all others, and which two are not where there are too many."""

from bellwrite.boxes import box_count, box_of
from bellwrite.errors import TooMany
from bellwrite.messages import written
from bellwrite.rows import alike, reading_of_both

MOST_BELL_ROWS = 200


def keeps_apart(rows, late):
    for place, row in enumerate(rows):
        for earlier in rows[:place]:
            if alike(earlier, row, late):
                return False
    return True


def crowd(rows, late):
    seen = {}
    for second, row in enumerate(rows):
        box = tuple(box_of(row, late))
        if box in seen:
            first = seen[box]
            return (first, second, reading_of_both(rows[first], row, late))
        seen[box] = second
    return None


def bell_rows(turns, bells, late):
    many = box_count(turns, bells, late)
    if many > MOST_BELL_ROWS:
        raise TooMany("the frame has too many bell rows to list them")
    return [written(message, turns, bells, late) for message in range(many)]
