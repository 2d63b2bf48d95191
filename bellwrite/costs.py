"""What frames cost: the cheapest one for so many messages."""

from bellwrite.frames import shortest_frame


def cheapest(many, late, turn_cost, bell_cost, most):
    best = None
    for bells in range(most + 1):
        turns = shortest_frame(bells, late, many)
        if turns is not None:
            cost = turns * turn_cost + bells * bell_cost
            if best is None or cost < best[0]:
                best = (cost, turns, bells)
    return best
