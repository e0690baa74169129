"""Hoists: bodies with their weights, and ropes with their strands at the bodies."""

from hoistworks.errors import NoBody, NoHoist, NoRope, TooMany

MOST_BODIES = 4
MOST_ROPES = 5
MOST_WEIGHT = 1000
MOST_PAIRS = 12
MOST_STRANDS = 9


class Hoist:
    def __init__(self, weights, ropes):
        check_weights(weights)
        if len(ropes) > MOST_ROPES:
            raise NoHoist("too many ropes")
        # Lists of its own: those that were handed in may be changed later.
        self.body_weights = list(weights)
        self.rope_strands = [added_strands(rope, len(weights)) for rope in ropes]

    def weights(self):
        return list(self.body_weights)

    def many_ropes(self):
        return len(self.rope_strands)

    def strands(self, rope, body):
        check_rope(self, rope)
        if body < 0 or body >= len(self.body_weights):
            raise NoBody(f"no body {body}")
        return self.rope_strands[rope][body]


def check_weights(weights):
    if len(weights) < 1 or len(weights) > MOST_BODIES:
        raise NoHoist("too few or too many bodies")
    for weight in weights:
        if weight < 0 or weight > MOST_WEIGHT:
            raise NoHoist(f"no weight: {weight}")


def check_rope(hoist, rope):
    if rope < 0 or rope >= hoist.many_ropes():
        raise NoRope(f"no rope {rope}")


def check_number(number):
    if abs(number) > MOST_STRANDS:
        raise NoHoist(f"too many strands: {number}")


def added_strands(rope, many_bodies):
    if len(rope) > MOST_PAIRS:
        raise NoHoist("too many pairs in a rope")
    sums = [0] * many_bodies
    for body, number in rope:
        if body < 0 or body >= many_bodies:
            raise NoHoist(f"a rope at no body: {body}")
        check_number(number)
        sums[body] += number
    # Only the whole sum is bounded, not what it comes to on the way.
    for total in sums:
        check_number(total)
    return sums


# The ropes of a hoist, as a new Hoist takes them, with the bodies numbered on by so much.
def told_ropes(hoist, ahead):
    return [told_pairs(hoist, rope, ahead) for rope in range(hoist.many_ropes())]


def told_pairs(hoist, rope, ahead):
    return [(ahead + body, hoist.strands(rope, body)) for body in range(len(hoist.weights()))]


def beside(one, other):
    weights = one.weights() + other.weights()
    ropes = told_ropes(one, 0) + told_ropes(other, len(one.weights()))
    # Asked here, as Hoist would refuse it with another error.
    if len(weights) > MOST_BODIES:
        raise TooMany("too many bodies")
    if len(ropes) > MOST_ROPES:
        raise TooMany("too many ropes")
    return Hoist(weights, ropes)


def without(hoist, rope):
    check_rope(hoist, rope)
    ropes = told_ropes(hoist, 0)
    return Hoist(hoist.weights(), ropes[:rope] + ropes[rope + 1:])
