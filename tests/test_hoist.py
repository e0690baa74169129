"""Points 2, 3, 4 and 12, the lists of point 1, and the interface's section hoistworks/hoist.py."""

import unittest
from copy import deepcopy

from drawn import table
from hoistworks.errors import NoBody, NoHoist, NoRope, TooMany
from hoistworks.hoist import Hoist, beside, without


def plain(bodies, ropes):
    """A hoist with so many bodies and ropes."""
    return Hoist([1] * bodies, [[(0, 1)]] * ropes)


class TakenTest(unittest.TestCase):
    def check_hoist(self, hoist, weights, strands):
        self.assertIsInstance(hoist, Hoist)
        self.assertEqual(hoist.weights(), weights)
        self.assertIs(type(hoist.weights()), list)
        self.assertEqual(hoist.many_ropes(), len(strands))
        self.assertEqual(table(hoist), strands)

    def test_one_body_without_a_rope(self):
        self.check_hoist(Hoist([7], []), [7], [])

    def test_a_roller_and_an_end(self):
        self.check_hoist(Hoist([20, 10], [[(0, 2), (1, -1)]]), [20, 10], [[2, -1]])

    def test_four_bodies_and_five_ropes(self):
        ropes = [[(0, 1)], [(1, 2), (2, -1)], [], [(3, 1), (0, -3)], [(3, 4)]]
        strands = [[1, 0, 0, 0], [0, 2, -1, 0], [0, 0, 0, 0], [-3, 0, 0, 1], [0, 0, 0, 4]]
        self.check_hoist(Hoist([4, 3, 2, 1], ropes), [4, 3, 2, 1], strands)

    def test_the_least_and_the_greatest_weight(self):
        self.check_hoist(Hoist([0, 1000, 0, 1000], []), [0, 1000, 0, 1000], [])

    def test_every_number_of_bodies_and_ropes(self):
        for bodies in range(1, 5):
            for ropes in range(6):
                with self.subTest(bodies=bodies, ropes=ropes):
                    strands = [[1] + [0] * (bodies - 1)] * ropes
                    self.check_hoist(plain(bodies, ropes), [1] * bodies, strands)

    def test_a_rope_with_twelve_pairs(self):
        pairs = [(0, 1), (1, -1), (2, 2)] * 4
        self.check_hoist(Hoist([1, 1, 1], [pairs]), [1, 1, 1], [[4, -4, 8]])

    def test_numbers_of_a_body_in_several_pairs_are_added(self):
        self.check_hoist(Hoist([1, 1], [[(1, 3), (0, 1), (1, -5), (1, 1)]]), [1, 1], [[1, -1]])

    def test_numbers_may_add_up_to_nought(self):
        self.check_hoist(Hoist([1], [[(0, 9), (0, -9)]]), [1], [[0]])

    def test_only_the_whole_sum_is_bounded(self):
        self.check_hoist(Hoist([1], [[(0, 9), (0, 9), (0, -9)]]), [1], [[9]])
        self.check_hoist(Hoist([1], [[(0, -9), (0, -9), (0, 9)]]), [1], [[-9]])

    def test_a_number_of_nought(self):
        self.check_hoist(Hoist([1, 1], [[(0, 0)], [(1, 0), (1, 2)]]), [1, 1], [[0, 0], [0, 2]])

    def test_strands_at_their_bounds(self):
        self.check_hoist(Hoist([1, 1], [[(0, -9), (1, 9)]]), [1, 1], [[-9, 9]])
        self.check_hoist(Hoist([1, 1], [[(0, -4), (0, -5), (1, 8), (1, 1)]]), [1, 1], [[-9, 9]])

    def test_strands_of_a_body_in_no_pair(self):
        self.check_hoist(Hoist([1, 1, 1], [[(1, 5)], []]), [1, 1, 1], [[0, 5, 0], [0, 0, 0]])

    def test_arguments_have_their_names(self):
        hoist = Hoist(ropes=[[(1, 5)]], weights=[1, 2])
        self.check_hoist(hoist, [1, 2], [[0, 5]])
        self.assertEqual(hoist.strands(body=1, rope=0), 5)


class RefusedTest(unittest.TestCase):
    def check_refused(self, weights, ropes):
        with self.subTest(weights=weights, ropes=ropes), self.assertRaises(NoHoist):
            Hoist(weights, ropes)

    def test_no_bodies(self):
        self.check_refused([], [])
        self.check_refused([], [[]])

    def test_five_bodies(self):
        self.check_refused([1] * 5, [])

    def test_six_ropes(self):
        self.check_refused([1], [[(0, 1)]] * 6)
        self.check_refused([1], [[]] * 6)

    def test_a_weight_beyond_its_bounds_at_any_body(self):
        for weight in (-1, 1001, -1000, 10 ** 30):
            for place in range(4):
                weights = [5] * 4
                weights[place] = weight
                self.check_refused(weights, [])

    def test_thirteen_pairs(self):
        self.check_refused([1], [[(0, 0)] * 13])
        self.check_refused([1, 1], [[(0, 1)], [(0, 1), (1, -1)] * 6 + [(0, -1)]])

    def test_a_body_below_nought_or_beyond_the_last(self):
        for bodies in range(1, 5):
            for body in (-1, -bodies, bodies, bodies + 1):
                self.check_refused([1] * bodies, [[(0, 1), (body, 1)]])

    def test_no_such_body_even_with_a_number_of_nought(self):
        self.check_refused([1], [[(1, 0)]])
        self.check_refused([1], [[(-1, 0)]])

    def test_a_number_beyond_its_bounds(self):
        for number in (-10, 10, -100, 10 ** 30):
            self.check_refused([1, 1], [[(0, 1)], [(0, 1), (1, number)]])

    def test_a_number_beyond_its_bounds_though_others_bring_the_sum_back(self):
        self.check_refused([1], [[(0, 10), (0, -1)]])
        self.check_refused([1], [[(0, -1), (0, 10)]])
        self.check_refused([1], [[(0, -10), (0, 1)]])
        self.check_refused([1], [[(0, 1), (0, -10)]])

    def test_strands_that_add_up_beyond_their_bounds(self):
        self.check_refused([1], [[(0, 9), (0, 1)]])
        self.check_refused([1], [[(0, -9), (0, -1)]])
        self.check_refused([1, 1], [[(0, 1)], [(1, 5), (0, 1), (1, 5)]])
        self.check_refused([1, 1], [[(0, 1)], [(1, -5), (0, 1), (1, -5)]])

    def test_every_rope_is_looked_at(self):
        for place in range(5):
            ropes = [[(0, 1)] for rope in range(5)]
            ropes[place] = [(1, 1)]
            self.check_refused([1], ropes)


class AskedTest(unittest.TestCase):
    def setUp(self):
        self.hoist = Hoist([1, 2, 3], [[(0, 1), (2, 3)], [(1, 2)]])

    def test_no_such_rope(self):
        for rope in (-1, -2, -3, 2, 3, 10 ** 30):
            for body in range(3):
                with self.subTest(rope=rope, body=body), self.assertRaises(NoRope):
                    self.hoist.strands(rope, body)

    def test_no_such_body(self):
        for rope in range(2):
            for body in (-1, -3, -4, 3, 4, 10 ** 30):
                with self.subTest(rope=rope, body=body), self.assertRaises(NoBody):
                    self.hoist.strands(rope, body)

    def test_neither_such_rope_nor_such_body(self):
        for rope in (-1, 2):
            for body in (-1, 3):
                with self.subTest(rope=rope, body=body), self.assertRaises(NoRope):
                    self.hoist.strands(rope, body)

    def test_a_hoist_without_ropes_has_no_such_rope(self):
        with self.assertRaises(NoRope):
            Hoist([1], []).strands(0, 0)


class OwnListsTest(unittest.TestCase):
    def test_nothing_that_is_handed_in_is_changed(self):
        weights, ropes = [5, 6], [[(1, 1), (0, 2), (1, 0), (1, 3)], []]
        kept = deepcopy((weights, ropes))
        hoist = Hoist(weights, ropes)
        table(hoist)
        beside(hoist, hoist)
        without(hoist, 0)
        self.assertEqual((weights, ropes), kept)

    def test_what_was_handed_in_may_be_changed_later(self):
        weights, ropes = [5, 6], [[(0, 2)], [(1, 1)]]
        hoist = Hoist(weights, ropes)
        weights[0] = 9
        weights.append(7)
        ropes[0][0] = (1, 5)
        ropes[1].append((0, 4))
        ropes.pop()
        self.assertEqual(hoist.weights(), [5, 6])
        self.assertEqual(table(hoist), [[2, 0], [0, 1]])

    def test_weights_that_were_told_are_the_askers_own(self):
        hoist = Hoist([5, 6], [[(0, 2)]])
        told = hoist.weights()
        self.assertIsNot(told, hoist.weights())
        told[0] = 9
        told.append(7)
        self.assertEqual(hoist.weights(), [5, 6])
        self.assertEqual(table(hoist), [[2, 0]])

    def test_one_list_handed_in_as_several_ropes(self):
        rope = [(0, 2)]
        hoist = Hoist([5], [rope, rope])
        rope.append((0, 1))
        self.assertEqual(table(hoist), [[2], [2]])

    def test_hoists_made_of_hoists_share_no_list(self):
        one, other = Hoist([1], [[(0, 1)]]), Hoist([2], [[(0, 2)]])
        both, rest = beside(one, other), without(one, 0)
        for hoist in (one, other, both, rest):
            hoist.weights().clear()
        self.assertEqual([hoist.weights() for hoist in (one, other, both, rest)], [[1], [2], [1, 2], [1]])

    def test_beside_and_without_leave_their_hoists_as_they_are(self):
        one, other = Hoist([1, 3], [[(0, 1), (1, -2)], [(1, 4)]]), Hoist([2], [[(0, 2)]])
        beside(one, other)
        without(one, 0)
        self.assertEqual((one.weights(), table(one)), ([1, 3], [[1, -2], [0, 4]]))
        self.assertEqual((other.weights(), table(other)), ([2], [[2]]))


class BesideTest(unittest.TestCase):
    def test_the_ones_bodies_and_ropes_stand_ahead(self):
        one = Hoist([5, 6], [[(0, 2), (1, -1)], [(1, 3)]])
        other = Hoist([7, 8], [[(1, 4)], [(0, -9), (1, 9)], []])
        both = beside(one, other)
        self.assertIsInstance(both, Hoist)
        self.assertEqual(both.weights(), [5, 6, 7, 8])
        self.assertEqual(
            table(both), [[2, -1, 0, 0], [0, 3, 0, 0], [0, 0, 0, 4], [0, 0, -9, 9], [0, 0, 0, 0]])
        self.assertEqual(beside(other, one).weights(), [7, 8, 5, 6])
        self.assertEqual(
            table(beside(other, one)), [[0, 4, 0, 0], [-9, 9, 0, 0], [0, 0, 0, 0], [0, 0, 2, -1], [0, 0, 0, 3]])

    def test_without_ropes(self):
        both = beside(Hoist([5], []), Hoist([6, 7, 8], []))
        self.assertEqual((both.weights(), both.many_ropes()), ([5, 6, 7, 8], 0))

    def test_ropes_of_one_side_alone(self):
        hoist, bare = Hoist([5], [[(0, 1)]]), Hoist([6, 7], [])
        self.assertEqual(table(beside(hoist, bare)), [[1, 0, 0]])
        self.assertEqual(table(beside(bare, hoist)), [[0, 0, 1]])

    def test_a_hoist_beside_itself(self):
        hoist = Hoist([5], [[(0, 3)]])
        both = beside(hoist, hoist)
        self.assertEqual((both.weights(), table(both)), ([5, 5], [[3, 0], [0, 3]]))

    def test_strands_of_many_pairs(self):
        full = Hoist([1, 1], [[(0, 1), (1, -1)] * 6])
        self.assertEqual(table(beside(full, full)), [[6, -6, 0, 0], [0, 0, 6, -6]])

    def test_too_many_exactly_beyond_four_bodies_or_five_ropes(self):
        for bodies in range(1, 5):
            for others in range(1, 5):
                for ropes in range(6):
                    for more in range(6):
                        with self.subTest(bodies=(bodies, others), ropes=(ropes, more)):
                            self.check_many(plain(bodies, ropes), plain(others, more))

    def check_many(self, one, other):
        bodies = len(one.weights()) + len(other.weights())
        ropes = one.many_ropes() + other.many_ropes()
        if bodies > 4 or ropes > 5:
            self.assertRaises(TooMany, beside, one, other)
        else:
            both = beside(one, other)
            self.assertEqual((len(both.weights()), both.many_ropes()), (bodies, ropes))

    def test_arguments_have_their_names(self):
        self.assertEqual(beside(other=Hoist([2], []), one=Hoist([1], [])).weights(), [1, 2])


class WithoutTest(unittest.TestCase):
    def setUp(self):
        self.ropes = [[(0, 1)], [(1, 2), (0, -1)], [(0, 3)], [], [(1, 5)]]
        self.strands = [[1, 0], [-1, 2], [3, 0], [0, 0], [0, 5]]
        self.hoist = Hoist([4, 3], self.ropes)

    def test_each_place_of_the_rope_left_out(self):
        for rope in range(5):
            with self.subTest(rope=rope):
                rest = without(self.hoist, rope)
                self.assertIsInstance(rest, Hoist)
                self.assertEqual(rest.weights(), [4, 3])
                self.assertEqual(rest.many_ropes(), 4)
                self.assertEqual(table(rest), self.strands[:rope] + self.strands[rope + 1:])

    def test_the_only_rope(self):
        rest = without(Hoist([4], [[(0, 1)]]), 0)
        self.assertEqual((rest.weights(), rest.many_ropes()), ([4], 0))

    def test_no_such_rope(self):
        for rope in (-1, -5, -6, 5, 6):
            with self.subTest(rope=rope):
                self.assertRaises(NoRope, without, self.hoist, rope)
        for rope in (-1, 0, 1):
            with self.subTest(rope=rope, ropes=0):
                self.assertRaises(NoRope, without, Hoist([4], []), rope)

    def test_what_was_set_beside_can_be_taken_away(self):
        both = beside(Hoist([1], [[(0, 2)]]), self.hoist_of_one_rope())
        self.assertEqual(table(without(both, 0)), [[0, 7]])
        self.assertEqual(table(without(both, 1)), [[2, 0]])

    def hoist_of_one_rope(self):
        return Hoist([2], [[(0, 7)]])

    def test_arguments_have_their_names(self):
        self.assertEqual(without(rope=0, hoist=self.hoist).many_ropes(), 4)


if __name__ == "__main__":
    unittest.main()
