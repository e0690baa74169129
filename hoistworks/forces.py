"""What pulls lift, and what motions give to spare and gain."""

from hoistworks.parts import NOUGHT, less, plus, times


def strands_at(hoist, body):
    return [hoist.strands(rope, body) for rope in range(hoist.many_ropes())]


def strands_of(hoist, rope):
    return [hoist.strands(rope, body) for body in range(len(hoist.weights()))]


def added(numbers, fractions):
    total = NOUGHT
    for number, fraction in zip(numbers, fractions):
        total = plus(total, times((number, 1), fraction))
    return total


def none_below_nought(fractions):
    return not any([less(fraction, NOUGHT) for fraction in fractions])


def lifted(hoist, pulls):
    return [added(strands_at(hoist, body), pulls) for body in range(len(hoist.weights()))]


def holds(hoist, pulls):
    return none_below_nought(pulls) and lifted(hoist, pulls) == [(weight, 1) for weight in hoist.weights()]


def spare(hoist, motion):
    return [added(strands_of(hoist, rope), motion) for rope in range(hoist.many_ropes())]


def gain(hoist, motion):
    return added(hoist.weights(), motion)


def is_let(hoist, motion):
    return none_below_nought(spare(hoist, motion))
