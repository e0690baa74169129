"""What several tests need: hoists, pulls and motions that are drawn, the same ones in each run, and looks at them.

The sums are reckoned here with Python's own fractions, not with the program's.
"""

import random
from fractions import Fraction

from hoistworks.hoist import Hoist


def table(hoist):
    """The strands of each rope at each body."""
    bodies = range(len(hoist.weights()))
    return [[hoist.strands(rope, body) for body in bodies] for rope in range(hoist.many_ropes())]


def pair(fraction):
    return Fraction(fraction).as_integer_ratio()


def pairs(*fractions):
    return [pair(fraction) for fraction in fractions]


def product(ones, others):
    """The sum of each times its fellow, which are whole numbers, Fractions or tuples (top, bottom)."""
    if len(ones) != len(others):
        raise AssertionError(f"not as long: {ones}, {others}")
    return sum((plain(one) * plain(other) for one, other in zip(ones, others)), Fraction(0))


def plain(number):
    return Fraction(*number) if isinstance(number, tuple) else Fraction(number)


def wanted_lifted(hoist, pulls):
    return [product([rope[body] for rope in table(hoist)], pulls) for body in range(len(hoist.weights()))]


def wanted_spare(hoist, motion):
    return [product(rope, motion) for rope in table(hoist)]


def wanted_gain(hoist, motion):
    return product(hoist.weights(), motion)


def check_fractions(test, told, many, figures=None):
    """That told is a list of so many fractions in lowest terms."""
    test.assertIs(type(told), list)
    test.assertEqual(len(told), many)
    for fraction in told:
        check_fraction(test, fraction)
        if figures is not None:
            test.assertLess(max(abs(fraction[0]), fraction[1]), 10 ** figures)


def check_fraction(test, fraction):
    test.assertIs(type(fraction), tuple)
    test.assertEqual([type(number) for number in fraction], [int, int])
    test.assertGreater(fraction[1], 0)
    test.assertEqual(fraction, pair(Fraction(*fraction)))


class Drawn:
    def __init__(self, seed):
        self.source = random.Random(seed)

    def number(self, least, most):
        return self.source.randint(least, most)

    def one_of(self, choices):
        return self.source.choice(choices)

    def fractions(self, many, most=20):
        return [pair(Fraction(self.number(-most, most), self.number(1, most))) for place in range(many)]

    def ropes(self, bodies, many):
        # Few numbers make ropes that pull alike or against each other, and bodies and ropes without strands.
        most = self.one_of((1, 2, 9, 9))
        return [[(body, self.number(-most, most)) for body in range(bodies)] for rope in range(many)]

    def hoist(self):
        """A hoist with drawn weights, some of them nought."""
        bodies = self.number(1, 4)
        weights = [self.one_of((0, self.number(0, 9), self.number(0, 1000), 1000)) for body in range(bodies)]
        return Hoist(weights, self.ropes(bodies, self.number(0, 5)))

    def still_hoist(self):
        """A hoist with weights that are made by drawn pulls."""
        while True:
            bodies, many = self.number(1, 4), self.number(0, 5)
            ropes = self.ropes(bodies, many)
            pulls = [self.one_of((0, self.number(0, 30))) for rope in range(many)]
            weights = [sum(pull * rope[body][1] for pull, rope in zip(pulls, ropes)) for body in range(bodies)]
            if 0 <= min(weights) and max(weights) <= 1000:
                return Hoist(weights, ropes)

    def either_hoist(self):
        return self.still_hoist() if self.number(0, 1) else self.hoist()
