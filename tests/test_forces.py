"""Points 5, 6, 7 and 8, and the interface's section hoistworks/forces.py."""

import unittest
from copy import deepcopy
from fractions import Fraction

from drawn import Drawn, check_fraction, check_fractions, pair, pairs, product
from drawn import wanted_gain, wanted_lifted, wanted_spare
from hoistworks.forces import gain, holds, is_let, lifted, spare
from hoistworks.hoist import Hoist, beside, without

HALF, THIRD = Fraction(1, 2), Fraction(1, 3)
BIG = 10 ** 40 - 1
MANY = 1500


def roller_and_end(weights):
    """Body 0 hangs by a roller, body 1 is tied to the end of the rope that runs round it."""
    return Hoist(weights, [[(0, 2), (1, 1)]])


def four_bodies(weights):
    return Hoist(weights, [[(0, 2), (1, -1)], [(1, 3), (2, 1)], [(2, 4), (3, -2)], [(3, 5), (0, 1)], []])


class LiftedTest(unittest.TestCase):
    def check_lifted(self, hoist, pulls, wanted):
        told = lifted(hoist, pulls)
        check_fractions(self, told, len(hoist.weights()))
        self.assertEqual(told, wanted)

    def test_no_ropes(self):
        self.check_lifted(Hoist([7], []), [], pairs(0))
        self.check_lifted(Hoist([7, 0, 1, 2], []), [], pairs(0, 0, 0, 0))

    def test_one_body(self):
        self.check_lifted(Hoist([7], [[(0, 2)]]), pairs(5), pairs(10))
        self.check_lifted(Hoist([7], [[(0, 2)], [(0, -3)], [(0, 1)]]), pairs(5, 2, 1), pairs(5))

    def test_four_bodies_and_strands_of_both_signs(self):
        self.check_lifted(four_bodies([0, 0, 0, 0]), pairs(1, 2, 3, 4, 5), pairs(6, 5, 14, 14))

    def test_pulls_that_are_no_whole_numbers(self):
        self.check_lifted(roller_and_end([20, 10]), pairs(HALF), pairs(1, HALF))
        self.check_lifted(Hoist([1], [[(0, 1)], [(0, 1)]]), pairs(HALF, THIRD), pairs(Fraction(5, 6)))
        self.check_lifted(Hoist([1], [[(0, 3)], [(0, 2)]]), pairs(THIRD, HALF), pairs(2))

    def test_pulls_below_nought(self):
        self.check_lifted(roller_and_end([20, 10]), pairs(-HALF), pairs(-1, -HALF))
        self.check_lifted(Hoist([1], [[(0, -3)]]), pairs(-2), pairs(6))

    def test_what_comes_to_nought(self):
        self.check_lifted(Hoist([1, 1], [[(0, 2), (1, 1)], [(0, -3)]]), pairs(THIRD, Fraction(2, 9)), pairs(0, THIRD))

    def test_a_rope_and_a_body_without_strands(self):
        self.check_lifted(Hoist([1, 1], [[], [(0, 4), (0, -4)], [(0, 1)]]), pairs(9, 8, 7), pairs(7, 0))

    def test_the_weights_play_no_part(self):
        for weights in ([0, 0], [20, 10], [1000, 1]):
            self.check_lifted(roller_and_end(weights), pairs(3), pairs(6, 3))

    def test_big_tops_and_bottoms(self):
        hoist = Hoist([1, 1], [[(0, 9), (1, 1)], [(0, -1), (1, 1)]])
        pulls = [(BIG, BIG - 1), (-BIG, BIG - 2)]
        above, below = Fraction(BIG, BIG - 1), Fraction(BIG, BIG - 2)
        self.check_lifted(hoist, pulls, pairs(9 * above + below, above - below))
        self.check_lifted(hoist, pairs(Fraction(1, BIG), Fraction(9, BIG)), pairs(0, Fraction(10, BIG)))

    def test_many_drawn_hoists_and_pulls(self):
        drawn = Drawn(5)
        for turn in range(MANY):
            hoist = drawn.either_hoist()
            pulls = drawn.fractions(hoist.many_ropes(), drawn.one_of((3, 20, BIG)))
            self.check_lifted(hoist, pulls, pairs(*wanted_lifted(hoist, pulls)))


class HoldsTest(unittest.TestCase):
    def test_no_ropes(self):
        self.assertIs(holds(Hoist([0], []), []), True)
        self.assertIs(holds(Hoist([0, 0, 0, 0], []), []), True)
        self.assertIs(holds(Hoist([1], []), []), False)
        self.assertIs(holds(Hoist([0, 0, 0, 1], []), []), False)

    def test_one_body(self):
        hoist = Hoist([7], [[(0, 2)]])
        self.assertIs(holds(hoist, pairs(Fraction(7, 2))), True)
        self.assertIs(holds(hoist, pairs(3)), False)
        self.assertIs(holds(hoist, pairs(4)), False)
        self.assertIs(holds(hoist, pairs(0)), False)

    def test_pulls_that_miss_one_body(self):
        self.assertIs(holds(roller_and_end([20, 10]), pairs(10)), True)
        self.assertIs(holds(roller_and_end([20, 11]), pairs(10)), False)
        self.assertIs(holds(roller_and_end([21, 10]), pairs(10)), False)
        for body in range(4):
            for more in (-1, 0, 1):
                weights = [6, 5, 14, 14]
                weights[body] += more
                with self.subTest(weights=weights):
                    self.assertIs(holds(four_bodies(weights), pairs(1, 2, 3, 4, 5)), more == 0)

    def test_pulls_that_miss_by_very_little(self):
        hoist = Hoist([1], [[(0, 1)], [(0, 1)]])
        self.assertIs(holds(hoist, [(1, BIG), (BIG - 1, BIG)]), True)
        self.assertIs(holds(hoist, [(1, BIG), (BIG - 2, BIG - 1)]), False)

    def test_no_pull_may_be_below_nought(self):
        hoist = Hoist([6], [[(0, 2)], [(0, 1)], [(0, -3)]])
        self.assertIs(holds(hoist, pairs(3, 0, 0)), True)
        self.assertIs(holds(hoist, pairs(0, 0, -2)), False)
        self.assertIs(holds(hoist, pairs(4, -2, 0)), False)
        self.assertIs(holds(hoist, pairs(-1, 8, 0)), False)
        self.assertIs(holds(Hoist([0], [[], [(0, 1)]]), [(-1, BIG), (0, 1)]), False)

    def test_a_body_with_nought_to_be_lifted(self):
        hoist = Hoist([4, 0], [[(0, 1), (1, -1)], [(1, 2)]])
        self.assertIs(holds(hoist, pairs(4, 2)), True)
        self.assertIs(holds(hoist, pairs(4, 0)), False)
        self.assertIs(holds(hoist, pairs(0, 0)), False)
        self.assertIs(holds(Hoist([0, 0], [[(0, 1)]]), pairs(0)), True)

    def test_a_rope_without_strands_may_pull(self):
        self.assertIs(holds(Hoist([4], [[], [(0, 1)]]), pairs(99, 4)), True)

    def test_big_tops_and_bottoms(self):
        hoist = Hoist([9], [[(0, 9)], [(0, -9)]])
        self.assertIs(holds(hoist, pairs(BIG, BIG - 1)), True)
        self.assertIs(holds(hoist, pairs(BIG, BIG)), False)
        self.assertIs(holds(hoist, pairs(Fraction(BIG, BIG - 1), Fraction(1, BIG - 1))), True)

    def test_many_drawn_hoists_and_pulls(self):
        drawn = Drawn(55)
        for turn in range(MANY):
            ropes = drawn.ropes(2, 2)
            pulls = pairs(*[Fraction(drawn.number(-1, 4), drawn.number(1, 2)) for rope in range(2)])
            found = wanted_lifted(Hoist([0, 0], ropes), pulls)
            hoist = Hoist([abs(int(number)) for number in found], ropes)
            wanted = found == hoist.weights() and min(pulls)[0] >= 0
            self.assertIs(holds(hoist, pulls), wanted)


class SpareTest(unittest.TestCase):
    def check_spare(self, hoist, motion, wanted, is_so):
        told = spare(hoist, motion)
        check_fractions(self, told, hoist.many_ropes())
        self.assertEqual(told, wanted)
        self.assertIs(is_let(hoist, motion), is_so)

    def test_no_ropes(self):
        self.check_spare(Hoist([7], []), pairs(-3), [], True)
        self.check_spare(Hoist([7, 0, 0, 1], []), pairs(1, -1, HALF, 0), [], True)

    def test_one_body(self):
        hoist = Hoist([7], [[(0, 2)], [(0, -3)]])
        self.check_spare(hoist, pairs(2), pairs(4, -6), False)
        self.check_spare(hoist, pairs(-2), pairs(-4, 6), False)
        self.check_spare(hoist, pairs(0), pairs(0, 0), True)

    def test_a_body_rises_and_one_sinks(self):
        self.check_spare(roller_and_end([20, 10]), pairs(1, -2), pairs(0), True)
        self.check_spare(roller_and_end([20, 10]), pairs(1, -1), pairs(1), True)
        self.check_spare(roller_and_end([20, 10]), pairs(1, -3), pairs(-1), False)
        self.check_spare(roller_and_end([20, 10]), pairs(-1, 2), pairs(0), True)
        self.check_spare(roller_and_end([20, 10]), pairs(-1, 1), pairs(-1), False)

    def test_motions_that_are_no_whole_numbers(self):
        self.check_spare(roller_and_end([20, 10]), pairs(HALF, -THIRD), pairs(Fraction(2, 3)), True)
        self.check_spare(roller_and_end([20, 10]), pairs(THIRD, -1), pairs(-THIRD), False)
        self.check_spare(roller_and_end([20, 10]), pairs(Fraction(1, 6), -THIRD), pairs(0), True)

    def test_four_bodies(self):
        self.check_spare(four_bodies([0, 0, 0, 0]), pairs(1, 2, 3, 4), pairs(0, 9, 4, 21, 0), True)
        self.check_spare(four_bodies([0, 0, 0, 0]), pairs(1, 3, 3, 4), pairs(-1, 12, 4, 21, 0), False)

    def test_any_one_rope_that_gets_less_than_nought(self):
        for rope in range(5):
            ropes = [[(0, 1)] for place in range(5)]
            ropes[rope] = [(0, -1)]
            wanted = [(1, BIG)] * 5
            wanted[rope] = (-1, BIG)
            self.check_spare(Hoist([1], ropes), [(1, BIG)], wanted, False)

    def test_a_rope_without_strands_gets_nought(self):
        self.check_spare(Hoist([1, 1], [[], [(1, 2), (1, -2)]]), pairs(-5, 7), pairs(0, 0), True)

    def test_many_drawn_hoists_and_motions(self):
        drawn = Drawn(6)
        for turn in range(MANY):
            hoist = drawn.either_hoist()
            motion = drawn.fractions(len(hoist.weights()), drawn.one_of((1, 3, 20, BIG)))
            wanted = wanted_spare(hoist, motion)
            self.check_spare(hoist, motion, pairs(*wanted), min(wanted, default=0) >= 0)


class GainTest(unittest.TestCase):
    def check_gain(self, hoist, motion, wanted):
        told = gain(hoist, motion)
        check_fraction(self, told)
        self.assertEqual(told, pair(wanted))

    def test_bodies_that_rise_and_sink(self):
        self.check_gain(Hoist([7], []), pairs(2), 14)
        self.check_gain(Hoist([7], []), pairs(-2), -14)
        self.check_gain(roller_and_end([20, 10]), pairs(1, -2), 0)
        self.check_gain(roller_and_end([20, 11]), pairs(1, -2), -2)
        self.check_gain(four_bodies([1, 10, 100, 1000]), pairs(4, -3, 2, -1), -826)

    def test_motions_that_are_no_whole_numbers(self):
        self.check_gain(roller_and_end([20, 11]), pairs(HALF, -THIRD), Fraction(19, 3))
        self.check_gain(Hoist([6], []), pairs(-THIRD), -2)

    def test_nought(self):
        self.check_gain(Hoist([0, 0], []), pairs(5, -6), 0)
        self.check_gain(Hoist([5, 6], [[(0, 1)]]), pairs(0, 0), 0)

    def test_the_ropes_play_no_part(self):
        for ropes in ([], [[(0, 1)]], [[(0, -9), (1, 9)]] * 5):
            self.check_gain(Hoist([3, 4], ropes), pairs(5, -6), -9)

    def test_big_tops_and_bottoms(self):
        motion = [(BIG, BIG - 1), (-BIG, BIG - 2)]
        self.check_gain(Hoist([1000, 999], []), motion, 1000 * Fraction(BIG, BIG - 1) - 999 * Fraction(BIG, BIG - 2))

    def test_many_drawn_hoists_and_motions(self):
        drawn = Drawn(7)
        for turn in range(MANY):
            hoist = drawn.hoist()
            motion = drawn.fractions(len(hoist.weights()), drawn.one_of((3, 20, BIG)))
            self.check_gain(hoist, motion, wanted_gain(hoist, motion))


class SumsTest(unittest.TestCase):
    def test_the_two_sums_are_the_same(self):
        drawn = Drawn(8)
        for turn in range(MANY):
            hoist = drawn.either_hoist()
            most = drawn.one_of((3, 20, BIG))
            pulls = drawn.fractions(hoist.many_ropes(), most)
            motion = drawn.fractions(len(hoist.weights()), most)
            self.assertEqual(product(pulls, spare(hoist, motion)), product(lifted(hoist, pulls), motion))

    def test_no_motion_that_is_let_has_a_gain_below_nought_where_pulls_hold(self):
        drawn = Drawn(88)
        many_let = 0
        for turn in range(MANY):
            ropes = [[(0, drawn.number(-1, 5)), (1, drawn.number(-1, 5))] for rope in range(2)]
            pulls = [(drawn.number(0, 9), 1) for rope in range(2)]
            weights = [int(number) for number in wanted_lifted(Hoist([0, 0], ropes), pulls)]
            motion = drawn.fractions(2)
            if min(weights) >= 0:
                hoist = Hoist(weights, ropes)
                self.assertIs(holds(hoist, pulls), True)
                if is_let(hoist, motion):
                    many_let += 1
                    self.assertGreaterEqual(gain(hoist, motion)[0], 0)
        self.assertGreater(many_let, 100)


class BesideTest(unittest.TestCase):
    def test_two_hoists_beside_one_another(self):
        one, other = roller_and_end([20, 10]), Hoist([7], [[(0, 2)], [(0, -1)]])
        both = beside(one, other)
        pulls, motion = pairs(HALF, 3, -THIRD), pairs(1, -2, HALF)
        self.assertEqual(lifted(both, pulls), lifted(one, pulls[:1]) + lifted(other, pulls[1:]))
        self.assertEqual(spare(both, motion), spare(one, motion[:2]) + spare(other, motion[2:]))
        self.assertEqual(gain(both, motion), pair(Fraction(7, 2)))
        self.assertIs(holds(both, pairs(10, 4, 1)), True)
        self.assertIs(holds(both, pairs(10, 4, 0)), False)
        self.assertIs(is_let(both, pairs(1, -2, 0)), True)
        self.assertIs(is_let(both, motion), False)

    def test_a_hoist_without_a_rope(self):
        hoist = Hoist([4], [[(0, 1)], [(0, -5)], [(0, 2)]])
        rest = without(hoist, 1)
        self.assertEqual(lifted(rest, pairs(1, 2)), pairs(5))
        self.assertEqual(spare(rest, pairs(3)), pairs(3, 6))
        self.assertIs(holds(rest, pairs(0, 2)), True)
        self.assertIs(is_let(rest, pairs(3)), True)
        self.assertIs(is_let(hoist, pairs(3)), False)


class OwnListsTest(unittest.TestCase):
    def test_nothing_that_is_handed_in_is_changed(self):
        hoist = four_bodies([6, 5, 14, 14])
        pulls, motion = pairs(1, -2, HALF, 4, 5), pairs(-1, THIRD, 3, 4)
        kept = deepcopy((pulls, motion))
        for told in (lifted(hoist, pulls), spare(hoist, motion)):
            told[0] = (99, 1)
            told.clear()
        holds(hoist, pulls)
        gain(hoist, motion)
        is_let(hoist, motion)
        self.assertEqual((pulls, motion), kept)
        self.assertEqual(hoist.weights(), [6, 5, 14, 14])

    def test_what_was_told_hangs_on_nothing_that_was_handed_in(self):
        hoist = Hoist([1], [[(0, 1)]])
        pulls, motion = pairs(3), pairs(4)
        told = (lifted(hoist, pulls), spare(hoist, motion))
        pulls[0] = motion[0] = (9, 1)
        self.assertEqual(told, (pairs(3), pairs(4)))

    def test_each_asker_gets_a_list_of_its_own(self):
        hoist = Hoist([1], [[(0, 1)]])
        pulls, motion = pairs(3), pairs(4)
        told = [lifted(hoist, pulls), lifted(hoist, pulls), spare(hoist, motion), spare(hoist, motion), pulls, motion]
        self.assertEqual(len({id(one) for one in told}), 6)

    def test_arguments_have_their_names(self):
        hoist = roller_and_end([20, 10])
        self.assertEqual(lifted(pulls=pairs(3), hoist=hoist), pairs(6, 3))
        self.assertIs(holds(pulls=pairs(10), hoist=hoist), True)
        self.assertEqual(spare(motion=pairs(1, -1), hoist=hoist), pairs(1))
        self.assertEqual(gain(motion=pairs(1, -1), hoist=hoist), (10, 1))
        self.assertIs(is_let(motion=pairs(1, -1), hoist=hoist), True)


if __name__ == "__main__":
    unittest.main()
