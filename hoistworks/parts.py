"""Fractions: tuples (top, bottom) without a common divisor above one, the bottom above nought."""

NOUGHT = (0, 1)


def common_divisor(one, other):
    divisor = abs(one)
    rest = abs(other)
    while rest != 0:
        smaller = divisor % rest
        divisor = rest
        rest = smaller
    return divisor


def lowest(top, bottom):
    divisor = common_divisor(top, bottom)
    # A divisor below nought turns both signs, which brings the bottom above nought.
    if bottom < 0:
        divisor = -divisor
    return (top // divisor, bottom // divisor)


def plus(one, other):
    return lowest(one[0] * other[1] + other[0] * one[1], one[1] * other[1])


def minus(one, other):
    return lowest(one[0] * other[1] - other[0] * one[1], one[1] * other[1])


def times(one, other):
    return lowest(one[0] * other[0], one[1] * other[1])


def over(one, other):
    return lowest(one[0] * other[1], one[1] * other[0])


def less(one, other):
    return one[0] * other[1] < other[0] * one[1]
