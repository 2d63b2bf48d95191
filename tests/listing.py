"""What the tests list: all rows, boxes, readings and frames of small sizes, and all that can be heard of a row."""

from copy import deepcopy
from itertools import combinations, combinations_with_replacement, product

from bellwrite.errors import BellError

SIXTY_FIGURES = 10 ** 60 - 1


def rows_of(turns, bells):
    return [list(row) for row in combinations(range(turns), bells)]


def rows_up_to(turns, bells):
    return [row for many in range(bells + 1) for row in rows_of(turns, many)]


def readings_of(below, bells):
    return [list(reading) for reading in combinations_with_replacement(range(below), bells)]


def readings_up_to(below, bells):
    return [reading for many in range(bells + 1) for reading in readings_of(below, many)]


def boxes_of(below, bells):
    # A box has the form of a reading: whole numbers from 0 on that do not fall.
    return readings_of(below, bells)


def frames_up_to(turns, bells, late):
    return list(product(range(turns + 1), range(bells + 1), range(late + 1)))


def all_heard(row, late):
    delays = product(range(late + 1), repeat=len(row))
    return {tuple(sorted(turn + delay for turn, delay in zip(row, some))) for some in delays}


def talk_frames_up_to(turns, bells, late):
    """The frames in which talks are rung: with a bell at least and no more bells than turns."""
    return [frame for frame in frames_up_to(turns, bells, late) if 1 <= frame[1] <= frame[0]]


def talks_of(count, many):
    return [list(talk) for talk in product(range(count), repeat=many)]


def small_belfries():
    """Belfries of no rope, one, two and three, ropes without bells and with more bells than turns among them."""
    frames = [(0, 0, 0), (3, 0, 1), (1, 2, 0), (2, 1, 0), (3, 1, 1), (4, 2, 1), (3, 2, 0), (4, 1, 2), (2, 2, 2)]
    pairs = [list(pair) for pair in product(frames, repeat=2)]
    return [[]] + [[frame] for frame in frames] + pairs + [list(three) for three in combinations(frames[3:], 3)]


def peals_of(frames):
    return [[list(row) for row in peal] for peal in product(*[rows_of(turns, bells) for turns, bells, _ in frames])]


def all_peals_heard(peal, frames):
    possible = [all_heard(row, late) for row, (_, _, late) in zip(peal, frames)]
    return [[list(reading) for reading in readings] for readings in product(*possible)]


def refusal_of(function, *handed):
    """The class of the refusal, None where nothing is refused; what is handed in must stay as it was."""
    before = deepcopy(handed)
    refusal = None
    try:
        function(*handed)
    except BellError as error:
        refusal = type(error)
    if handed != before:
        raise AssertionError(f"{function.__name__} changed what was handed in")
    return refusal
