"""Points 9, 10, 11 and 12, and the interface's section hoistworks/still.py."""

import unittest
from fractions import Fraction
from itertools import product as each_of

from drawn import Drawn, check_fractions, pairs, table, wanted_gain, wanted_lifted, wanted_spare
from hoistworks.errors import HoistError, NoRope, Sinks
from hoistworks.forces import holds, is_let
from hoistworks.hoist import Hoist, beside, without
from hoistworks.still import can_be_spared, judged, least_pull

FIGURES = 20
MANY = 1500

# Hoists whose ropes and weights stand at their bounds, for fractions as long as they get.
LONG = [
    Hoist([997, 991, 983, 977], [[(0, 9), (1, 9), (2, 9), (3, 8)], [(0, 9), (1, -9), (2, 7), (3, -9)],
                                 [(0, 9), (1, 8), (2, -9), (3, -9)], [(0, 8), (1, -9), (2, -9), (3, 9)],
                                 [(0, -7), (1, -9), (2, 9), (3, 9)]]),
    Hoist([1000, 999, 998, 997], [[(0, 9), (1, -8)], [(1, 9), (2, -8)], [(2, 9), (3, -8)], [(3, 9), (0, -8)],
                                  [(0, -9), (1, -9), (2, -9), (3, -7)]]),
    Hoist([1, 1000, 1, 1000], [[(0, 9), (1, 9), (2, 9), (3, 9)], [(0, 9), (1, 8), (2, 9), (3, 9)],
                               [(0, 9), (1, 9), (2, 8), (3, 9)], [(0, 9), (1, 9), (2, 9), (3, 8)],
                               [(0, -8), (1, 9), (2, -8), (3, 9)]]),
]


def roller_and_end(weights):
    return Hoist(weights, [[(0, 2), (1, 1)]])


class StillTest(unittest.TestCase):
    """What all tests here look at what is told with: Python's own fractions, not the program's."""

    def check_holds(self, hoist, pulls):
        check_fractions(self, pulls, hoist.many_ropes(), FIGURES)
        self.assertEqual(wanted_lifted(hoist, pulls), hoist.weights())
        self.assertGreaterEqual(min([pull[0] for pull in pulls], default=0), 0)

    def check_sinking(self, hoist, motion):
        check_fractions(self, motion, len(hoist.weights()), FIGURES)
        self.assertGreaterEqual(min(wanted_spare(hoist, motion), default=0), 0)
        self.assertLess(wanted_gain(hoist, motion), 0)

    def check_judged(self, hoist, wanted=None):
        told = judged(hoist)
        self.assertIs(type(told), tuple)
        self.assertEqual(len(told), 2)
        self.assertIn(told[0], ("still", "sinks"))
        if wanted is not None:
            self.assertEqual(told[0], wanted)
        if told[0] == "still":
            self.check_holds(hoist, told[1])
        else:
            self.check_sinking(hoist, told[1])
        return told[0]

    def check_least(self, hoist, rope, wanted=None):
        told = least_pull(hoist, rope)
        self.assertIs(type(told), tuple)
        self.assertEqual(len(told), 2)
        pulls, motion = told
        self.check_holds(hoist, pulls)
        check_fractions(self, motion, len(hoist.weights()), FIGURES)
        for place, number in enumerate(wanted_spare(hoist, motion)):
            self.assertGreaterEqual(number, -1 if place == rope else 0)
        self.assertEqual(wanted_gain(hoist, motion), -Fraction(*pulls[rope]))
        if wanted is not None:
            self.assertEqual(Fraction(*pulls[rope]), wanted)
        return pulls[rope]

    def check_spared(self, hoist, wanted):
        told = can_be_spared(hoist)
        self.assertIs(type(told), list)
        self.assertEqual(told, wanted)
        self.assertEqual([type(rope) for rope in told], [int] * len(told))

    def describe(self, hoist):
        return self.subTest(weights=hoist.weights(), strands=table(hoist))


class JudgedTest(StillTest):
    def test_no_ropes(self):
        self.assertEqual(judged(Hoist([0], [])), ("still", []))
        self.assertEqual(judged(Hoist([0, 0, 0, 0], [])), ("still", []))
        for weights in ([1], [1000], [0, 1], [0, 0, 0, 1], [5, 6, 7, 8]):
            self.check_judged(Hoist(weights, []), "sinks")

    def test_one_body(self):
        self.check_judged(Hoist([7], [[(0, 2)]]), "still")
        self.check_judged(Hoist([7], [[(0, -2)]]), "sinks")
        self.check_judged(Hoist([7], [[(0, -2)], [(0, 9)]]), "still")
        self.assertEqual(judged(Hoist([7], [[(0, 2)]]))[1], pairs(Fraction(7, 2)))

    def test_a_roller_and_an_end(self):
        self.check_judged(roller_and_end([20, 10]), "still")
        self.check_judged(roller_and_end([20, 11]), "sinks")
        self.check_judged(roller_and_end([21, 10]), "sinks")
        self.check_judged(roller_and_end([0, 1]), "sinks")
        self.check_judged(roller_and_end([1, 0]), "sinks")

    def test_all_weights_nought(self):
        drawn = Drawn(90)
        for turn in range(200):
            bodies = drawn.number(1, 4)
            self.check_judged(Hoist([0] * bodies, drawn.ropes(bodies, drawn.number(0, 5))), "still")

    def test_a_body_without_strands(self):
        self.check_judged(Hoist([5, 1], [[(0, 1)]]), "sinks")
        self.check_judged(Hoist([5, 0], [[(0, 1)]]), "still")
        self.check_judged(Hoist([1, 5], [[(1, 1)], [(1, -1), (0, 2), (0, -2)]]), "sinks")

    def test_a_rope_without_strands(self):
        self.check_judged(Hoist([5], [[]]), "sinks")
        self.check_judged(Hoist([0], [[]]), "still")
        self.check_judged(Hoist([5], [[], [(0, 1)], []]), "still")
        self.check_judged(Hoist([5, 5], [[(0, 3), (0, -3)], [(1, 1)]]), "sinks")

    def test_ropes_that_pull_alike(self):
        self.check_judged(Hoist([6, 3], [[(0, 2), (1, 1)]] * 5), "still")
        self.check_judged(Hoist([6, 4], [[(0, 2), (1, 1)]] * 5), "sinks")
        self.check_judged(Hoist([6, 3], [[(0, 2), (1, 1)], [(0, 4), (1, 2)], [(0, 8), (1, 4)]]), "still")

    def test_ropes_that_pull_against_each_other(self):
        self.check_judged(Hoist([6, 3], [[(0, 2), (1, 1)], [(0, -2), (1, -1)]]), "still")
        self.check_judged(Hoist([6, 4], [[(0, 2), (1, 1)], [(0, -2), (1, -1)]]), "sinks")
        self.check_judged(Hoist([0, 1], [[(0, 1), (1, 1)], [(0, -1), (1, 1)]]), "still")
        self.check_judged(Hoist([1, 0], [[(0, 1), (1, 1)], [(0, -1), (1, 1)]]), "sinks")
        self.check_judged(Hoist([1, 1], [[(0, 1), (1, -1)], [(0, -1), (1, 1)]]), "sinks")

    def test_pulls_would_have_to_be_below_nought(self):
        self.check_judged(Hoist([3, 1], [[(0, 1), (1, 1)], [(0, 1), (1, 2)]]), "sinks")
        self.check_judged(Hoist([3, 4], [[(0, 1), (1, 1)], [(0, 1), (1, 2)]]), "still")

    def test_at_the_rim_of_what_ropes_hold(self):
        ropes = [[(0, 3), (1, 1)], [(0, 1), (1, 3)]]
        for one, other in ((3, 1), (1, 3), (999, 333), (333, 999), (500, 500)):
            self.check_judged(Hoist([one, other], ropes), "still")
        for one, other in ((999, 332), (332, 999), (1000, 333), (1, 0)):
            self.check_judged(Hoist([one, other], ropes), "sinks")

    def test_four_bodies_in_a_chain(self):
        ropes = [[(0, 1), (1, -2)], [(1, 1), (2, -2)], [(2, 1), (3, -2)], [(3, 1)]]
        self.check_judged(Hoist([1, 0, 0, 0], ropes), "still")
        self.check_judged(Hoist([1, 2, 3, 4], ropes), "still")
        self.assertEqual(judged(Hoist([1, 2, 3, 4], ropes))[1], pairs(1, 4, 11, 26))
        self.check_judged(Hoist([1, 2, 3, 4], ropes[:3]), "sinks")

    def test_long_fractions(self):
        for hoist in LONG:
            for rope in range(5):
                self.check_judged(hoist)
                self.check_judged(without(hoist, rope))

    def test_many_with_weights_made_by_pulls(self):
        drawn = Drawn(9)
        for turn in range(MANY):
            hoist = drawn.still_hoist()
            with self.describe(hoist):
                self.check_judged(hoist, "still")

    def test_many_with_drawn_weights(self):
        drawn = Drawn(99)
        told = []
        for turn in range(MANY):
            hoist = drawn.hoist()
            with self.describe(hoist):
                told.append(self.check_judged(hoist))
        self.assertGreater(min(told.count("still"), told.count("sinks")), 100)

    def test_every_small_hoist_of_two_bodies(self):
        for numbers in each_of((-1, 0, 1), repeat=6):
            ropes = [[(0, numbers[place]), (1, numbers[place + 1])] for place in (0, 2, 4)]
            for weights in ((1, 0), (1, 1), (1, 2)):
                self.check_judged(Hoist(list(weights), ropes))

    def test_the_programs_own_words_agree(self):
        drawn = Drawn(999)
        for turn in range(200):
            hoist = drawn.either_hoist()
            word, told = judged(hoist)
            self.assertIs(holds(hoist, told) if word == "still" else is_let(hoist, told), True)


class LeastPullTest(StillTest):
    def test_one_rope(self):
        self.check_least(Hoist([7], [[(0, 2)]]), 0, Fraction(7, 2))
        self.check_least(roller_and_end([20, 10]), 0, 10)
        self.check_least(roller_and_end([0, 0]), 0, 0)

    def test_others_can_bear_all(self):
        hoist = Hoist([7], [[(0, 2)], [(0, 1)], [(0, -3)]])
        for rope in range(3):
            self.check_least(hoist, rope, 0)

    def test_others_can_bear_a_part(self):
        hoist = Hoist([10, 4], [[(0, 1)], [(0, 1), (1, 1)]])
        self.check_least(hoist, 0, 6)
        self.check_least(hoist, 1, 4)
        hoist = Hoist([10, 4], [[(0, 3)], [(0, 2), (1, 1)], [(0, 1), (1, 1)]])
        self.check_least(hoist, 0, Fraction(2, 3))
        self.check_least(hoist, 1, 0)
        self.check_least(hoist, 2, 0)

    def test_a_rope_that_pulls_down_has_to(self):
        hoist = Hoist([1, 2], [[(0, 1), (1, 1)], [(0, -1)]])
        self.check_least(hoist, 0, 2)
        self.check_least(hoist, 1, 1)

    def test_pulls_without_a_bound_above(self):
        hoist = Hoist([3], [[(0, 1)], [(0, -1)]])
        self.check_least(hoist, 0, 3)
        self.check_least(hoist, 1, 0)

    def test_all_weights_nought(self):
        hoist = Hoist([0, 0], [[(0, 1)], [(1, -2)], [], [(0, 1), (1, 1)], [(0, -1), (1, -1)]])
        for rope in range(5):
            self.check_least(hoist, rope, 0)

    def test_a_rope_and_a_body_without_strands(self):
        hoist = Hoist([5, 0], [[], [(0, 1)]])
        self.check_least(hoist, 0, 0)
        self.check_least(hoist, 1, 5)

    def test_ropes_that_pull_alike(self):
        hoist = Hoist([6, 3], [[(0, 2), (1, 1)]] * 5)
        for rope in range(5):
            self.check_least(hoist, rope, 0)

    def test_a_body_of_nought_between_ropes(self):
        hoist = Hoist([4, 0], [[(0, 1), (1, -1)], [(1, 2)], [(0, 1)]])
        self.check_least(hoist, 0, 0)
        self.check_least(hoist, 1, 0)
        self.check_least(hoist, 2, 0)
        self.check_least(Hoist([4, 0], [[(0, 1), (1, -1)], [(1, 2)]]), 1, 2)

    def test_a_chain(self):
        ropes = [[(0, 1), (1, -2)], [(1, 1), (2, -2)], [(2, 1), (3, -2)], [(3, 1)], [(3, 9)]]
        hoist = Hoist([1, 2, 3, 4], ropes)
        for rope, wanted in enumerate((1, 4, 11, 0, 0)):
            self.check_least(hoist, rope, wanted)

    def test_long_fractions(self):
        still = 0
        for hoist in LONG:
            if judged(hoist)[0] == "still":
                still += 1
                for rope in range(5):
                    self.check_least(hoist, rope)
        self.assertGreater(still, 0)

    def test_many_with_weights_made_by_pulls(self):
        drawn = Drawn(10)
        above = 0
        for turn in range(MANY // 2):
            hoist = drawn.still_hoist()
            with self.describe(hoist):
                for rope in range(hoist.many_ropes()):
                    above += self.check_least(hoist, rope)[0] > 0
        self.assertGreater(above, 100)

    def test_many_with_drawn_weights(self):
        drawn = Drawn(100)
        for turn in range(MANY // 2):
            hoist = drawn.hoist()
            with self.describe(hoist):
                for rope in range(hoist.many_ropes()):
                    if judged(hoist)[0] == "still":
                        self.check_least(hoist, rope)
                    else:
                        self.assertRaises(Sinks, least_pull, hoist, rope)

    def test_no_such_rope(self):
        for rope in (-1, -2, 1, 2, 10 ** 30):
            with self.subTest(rope=rope):
                self.assertRaises(NoRope, least_pull, roller_and_end([20, 10]), rope)
                self.assertRaises(NoRope, least_pull, roller_and_end([20, 11]), rope)
        for weight in (0, 1):
            for rope in (-1, 0, 1):
                with self.subTest(weight=weight, rope=rope):
                    self.assertRaises(NoRope, least_pull, Hoist([weight], []), rope)

    def test_a_hoist_that_sinks(self):
        self.assertRaises(Sinks, least_pull, roller_and_end([20, 11]), 0)
        for rope in range(2):
            self.assertRaises(Sinks, least_pull, Hoist([1], [[(0, -1)], []]), rope)


class CanBeSparedTest(StillTest):
    def test_none(self):
        self.check_spared(Hoist([0], []), [])
        self.check_spared(roller_and_end([20, 10]), [])
        self.check_spared(Hoist([10, 4], [[(0, 1)], [(0, 1), (1, 1)]]), [])

    def test_all(self):
        self.check_spared(Hoist([7], [[(0, 2)], [(0, 1)]]), [0, 1])
        self.check_spared(Hoist([0, 0], [[(0, 2)], [(0, -1), (1, 1)], [], [(1, 1)], [(1, 4)]]), [0, 1, 2, 3, 4])

    def test_some(self):
        self.check_spared(Hoist([7], [[], [(0, 1)], [(0, -1)]]), [0, 2])
        self.check_spared(Hoist([10, 4], [[(0, 1)], [(1, 3)], [(0, 1), (1, 1)]]), [1, 2])
        self.check_spared(Hoist([10, 4], [[(0, 3)], [(0, 2), (1, 1)], [(0, 1), (1, 1)]]), [1, 2])

    def test_a_chain(self):
        ropes = [[(0, 1), (1, -2)], [(1, 1), (2, -2)], [(2, 1), (3, -2)], [(3, 1)], [(3, 9)]]
        self.check_spared(Hoist([1, 2, 3, 4], ropes), [3, 4])

    def test_many_drawn_hoists(self):
        drawn = Drawn(11)
        seen = set()
        for turn in range(MANY // 2):
            hoist = drawn.still_hoist()
            with self.describe(hoist):
                ropes = range(hoist.many_ropes())
                wanted = [rope for rope in ropes if self.check_judged(without(hoist, rope)) == "still"]
                self.check_spared(hoist, wanted)
                self.assertEqual(wanted, [rope for rope in ropes if least_pull(hoist, rope)[0][rope] == (0, 1)])
                seen.add((len(ropes), len(wanted)))
        self.assertGreater(len(seen), 10)

    def test_a_hoist_that_sinks(self):
        for hoist in (roller_and_end([20, 11]), Hoist([1], []), Hoist([1], [[]]), Hoist([1, 0], [[(0, -1)]] * 5)):
            self.assertRaises(Sinks, can_be_spared, hoist)

    def test_many_that_sink(self):
        drawn = Drawn(110)
        for turn in range(200):
            hoist = drawn.hoist()
            if judged(hoist)[0] == "sinks":
                self.assertRaises(Sinks, can_be_spared, hoist)


class BesideTest(StillTest):
    def test_still_where_both_are(self):
        for one in (10, 11):
            for other in (0, 3):
                both = beside(roller_and_end([20, one]), Hoist([other], [[(0, -1)]]))
                self.check_judged(both, "still" if (one, other) == (10, 0) else "sinks")

    def test_least_pulls_and_ropes_to_spare(self):
        both = beside(roller_and_end([20, 10]), Hoist([6], [[(0, 4)], [(0, 1)]]))
        self.check_least(both, 0, 10)
        self.check_least(both, 1, 0)
        self.check_least(both, 2, 0)
        self.check_spared(both, [1, 2])
        self.check_least(without(both, 1), 1, 6)
        self.check_spared(without(both, 1), [])
        self.check_judged(without(both, 0), "sinks")

    def test_many_drawn_hoists(self):
        drawn = Drawn(12)
        for turn in range(MANY // 2):
            one, other = drawn.either_hoist(), drawn.either_hoist()
            try:
                both = beside(one, other)
            except HoistError:
                continue
            words = [judged(one)[0], judged(other)[0]]
            self.check_judged(both, "sinks" if "sinks" in words else "still")
            if words == ["still", "still"]:
                behind = [one.many_ropes() + rope for rope in can_be_spared(other)]
                self.check_spared(both, can_be_spared(one) + behind)


class OwnListsTest(StillTest):
    def setUp(self):
        self.hoist = Hoist([10, 4], [[(0, 3)], [(0, 2), (1, 1)], [(0, 1), (1, 1)]])
        self.sinking = roller_and_end([20, 11])

    def test_changing_what_was_told_changes_nothing(self):
        for ask in (lambda: judged(self.hoist)[1], lambda: judged(self.sinking)[1],
                    lambda: least_pull(self.hoist, 0)[0], lambda: least_pull(self.hoist, 0)[1],
                    lambda: can_be_spared(self.hoist)):
            told = ask()
            kept = list(told)
            told[0] = (99, 1)
            told.append(7)
            self.assertEqual(ask(), kept)
        self.assertEqual((self.hoist.weights(), self.sinking.weights()), ([10, 4], [20, 11]))
        self.assertEqual(table(self.hoist), [[3, 0], [2, 1], [1, 1]])

    def test_no_two_lists_are_one(self):
        hoist = Hoist([0], [[]])
        pulls, motion = least_pull(hoist, 0)
        self.assertEqual((pulls, motion), (pairs(0), pairs(0)))
        pulls[0] = (5, 1)
        self.assertEqual(motion, pairs(0))

    def test_what_the_hoist_was_made_of_may_be_changed_later(self):
        weights, ropes = [7], [[(0, 2)]]
        hoist = Hoist(weights, ropes)
        weights[0] = 1
        ropes[0].append((0, -3))
        ropes.append([(0, 1)])
        self.check_judged(hoist, "still")
        self.check_least(hoist, 0, Fraction(7, 2))
        self.check_spared(hoist, [])

    def test_arguments_have_their_names(self):
        self.assertEqual(judged(hoist=self.hoist)[0], "still")
        self.assertEqual(least_pull(rope=0, hoist=self.hoist)[0][0], (2, 3))
        self.assertEqual(can_be_spared(hoist=self.hoist), [1, 2])


if __name__ == "__main__":
    unittest.main()
