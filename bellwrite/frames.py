"""Which frame to take: the shortest one for so many messages, and the best number of bells for so many turns."""

from bellwrite.boxes import box_count
from bellwrite.choices import top_of


def shortest_frame(bells, late, many):
    if many == 0:
        return 0
    if bells == 0:
        return 0 if many == 1 else None
    # The greatest part and the bells together are the least number whose choices are as many as the messages.
    greatest = top_of(bells, many - 1) + 1 - bells
    return greatest * (late + 1) + bells


def best_bells(turns, late, most):
    best = 0
    greatest = 0
    for bells in range(most + 1):
        many = box_count(turns, bells, late)
        if many > greatest:
            best = bells
            greatest = many
    return best
