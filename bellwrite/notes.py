"""Notes: short texts as numbers, and those sent as talks in which the message 0 tells the end."""

from bellwrite.boxes import box_count
from bellwrite.errors import NoNote, NoReading, TooGreat
from bellwrite.messages import read
from bellwrite.talks import by_messages, refuse_silent, rung

SIGNS = "abcdefghijklmnopqrstuvwxyz "
MOST_SIGNS = 60
LEAST_COUNT = 3


def note_number(note):
    if not isinstance(note, str) or len(note) > MOST_SIGNS:
        raise NoNote("a note is a text of at most sixty signs")
    number = 0
    for sign in note:
        place = SIGNS.find(sign)
        if place == -1:
            raise NoNote("a note has small letters and blanks alone")
        number = number * len(SIGNS) + place + 1
    return number


def note_of(number):
    if not isinstance(number, int) or isinstance(number, bool):
        raise NoNote("the number of a note is a whole number")
    if number < 0 or number > note_number(" " * MOST_SIGNS):
        raise NoNote("no note has that number")
    signs = []
    left = number
    while left > 0:
        # The places of the signs are counted from 1 on, so one is taken off ahead of each division.
        left = left - 1
        signs.append(SIGNS[left % len(SIGNS)])
        left = left // len(SIGNS)
    return "".join(reversed(signs))


def parts(number, base):
    figures = []
    left = number
    while left > 0:
        figures.append(left % base)
        left = left // base
    return figures


def number_of_parts(figures, base):
    left = list(figures)
    weight = base
    # Two neighbours at a time make a figure by the squared base: many great figures are so put together
    # much sooner than one by one.
    while len(left) > 1:
        if len(left) % 2 == 1:
            left.append(0)
        left = [left[place] + left[place + 1] * weight for place in range(0, len(left), 2)]
        weight = weight * weight
    return sum(left)


def sent(note, turns, bells, late):
    number = note_number(note)
    refuse_silent(turns, bells)
    count = box_count(turns, bells, late)
    if count < LEAST_COUNT:
        raise TooGreat("a note needs a frame of three messages at least")
    messages = [figure + 1 for figure in parts(number, count - 1)]
    return rung(messages + [0], turns, bells, late)


def received(reading, turns, bells, late):
    figures = [message - 1 for message in messages_ahead_of_end(reading, turns, bells, late)]
    base = box_count(turns, bells, late) - 1
    try:
        return note_of(number_of_parts(figures, base))
    except NoNote as refusal:
        raise NoReading("what is received is no note") from refusal


def messages_ahead_of_end(reading, turns, bells, late):
    heard_of = by_messages(reading, turns, late)
    messages = []
    message = read(heard_of.get(0, []), turns, bells, late)
    while message != 0:
        messages.append(message)
        message = read(heard_of.get(len(messages), []), turns, bells, late)
    return messages
