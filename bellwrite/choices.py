"""How many sets of k things n things have, and the top that belongs to a number."""


def choose(n, k):
    if k > n:
        return 0
    ways = 1
    for taken in range(k):
        # Each step ends on the choices of taken + 1 out of n, so the division leaves nothing over.
        ways = ways * (n - taken) // (taken + 1)
    return ways


def top_of(k, number):
    return top_from(above_top(k, number), k, number)


def top_from(start, k, number):
    # The start must be no less than the top.
    top = start
    ways = choose(top, k)
    while ways > number:
        # Going one down from here takes off choose(top - 1, k - 1), the k-fold ways divided by the top, and
        # each further one takes off no more. So every n that the step leaps over has more choices than the number:
        # the top is never missed.
        most_off = ways * k // top
        step = rounded_up(ways - number, most_off)
        top = top - step
        ways = ways - most_off if step == 1 else choose(top, k)
    return top


def above_top(k, number):
    # If the choices of k out of n are no more than the number, the k-th power of n - k + 1 is no more than
    # the number times 1 * 2 * .. * k; so n - k + 1 has no more binary figures than the k-th part of that
    # product's, rounded up. A start this near spares most of the steps that a great number would need.
    product = number
    for factor in range(1, k + 1):
        product = product * factor
    figures = rounded_up(product.bit_length(), k)
    return (1 << figures) + k - 1


def rounded_up(number, divisor):
    return (number + divisor - 1) // divisor
