"""Point 13 and the interface's section hoistworks/notes.py."""

import re
import unittest

from drawn import Drawn, table
from hoistworks.errors import BadText
from hoistworks.hoist import Hoist, beside, without
from hoistworks.notes import read, shown

MANY = 1500
SIGNS = "\t\n" + "".join(chr(sign) for sign in range(32, 127) if chr(sign) != "%")
PLAIN = r"(?:0|[1-9][0-9]*)"
LINES = re.compile(rf"weights(?: {PLAIN})+\n(?:rope(?: {PLAIN}:-?[1-9][0-9]*)*\n)*")


def writes_a_hoist(text):
    """Whether the text is one that point 13 tells, asked in another way than the program does."""
    if not LINES.fullmatch(text):
        return False
    first, *others = text.splitlines()
    weights = [int(word) for word in first.split()[1:]]
    ropes = [[tuple(map(int, word.split(":"))) for word in line.split()[1:]] for line in others]
    bodies = [[body for body, number in rope] for rope in ropes]
    return (len(weights) <= 4 and max(weights) <= 1000 and len(ropes) <= 5
            and all(line == sorted(set(line)) for line in bodies)
            and all(body < len(weights) and abs(number) <= 9 for rope in ropes for body, number in rope))


class ShownTest(unittest.TestCase):
    def check_shown(self, hoist, wanted):
        told = shown(hoist)
        self.assertIs(type(told), str)
        self.assertEqual(told, wanted)

    def test_weights_alone(self):
        self.check_shown(Hoist([7], []), "weights 7\n")
        self.check_shown(Hoist([0, 1000, 10, 1], []), "weights 0 1000 10 1\n")

    def test_the_documents_rope(self):
        self.check_shown(Hoist([20, 10], [[(0, 2), (1, -1)]]), "weights 20 10\nrope 0:2 1:-1\n")

    def test_a_rope_without_strands(self):
        self.check_shown(Hoist([5], [[], [(0, 0)], [(0, 4), (0, -4)]]), "weights 5\nrope\nrope\nrope\n")

    def test_bodies_rise(self):
        self.check_shown(Hoist([1, 2, 3, 4], [[(3, 1), (1, -2), (2, 9), (0, -9)]]),
                         "weights 1 2 3 4\nrope 0:-9 1:-2 2:9 3:1\n")

    def test_bodies_with_strands_that_are_not_nought_alone(self):
        self.check_shown(Hoist([1, 2, 3], [[(2, 1), (1, 0)], [(1, 3), (1, -3), (0, 5)]]),
                         "weights 1 2 3\nrope 2:1\nrope 0:5\n")

    def test_strands_are_added(self):
        self.check_shown(Hoist([1], [[(0, 3), (0, -5)]]), "weights 1\nrope 0:-2\n")

    def test_ropes_stand_in_their_order(self):
        self.check_shown(Hoist([1], [[(0, number)] for number in (5, -3, 9, 1, 5)]),
                         "weights 1\nrope 0:5\nrope 0:-3\nrope 0:9\nrope 0:1\nrope 0:5\n")

    def test_hoists_made_of_hoists(self):
        both = beside(Hoist([5], [[(0, 1)]]), Hoist([6, 7], [[(1, 2)], []]))
        self.check_shown(both, "weights 5 6 7\nrope 0:1\nrope 2:2\nrope\n")
        self.check_shown(without(both, 1), "weights 5 6 7\nrope 0:1\nrope\n")

    def test_arguments_have_their_names(self):
        self.assertEqual(shown(hoist=Hoist([7], [])), "weights 7\n")
        self.assertEqual(read(text="weights 7\n").weights(), [7])


class ReadTest(unittest.TestCase):
    def check_read(self, text, weights, strands):
        hoist = read(text)
        self.assertIsInstance(hoist, Hoist)
        self.assertEqual((hoist.weights(), table(hoist)), (weights, strands))

    def test_weights_alone(self):
        self.check_read("weights 7\n", [7], [])
        self.check_read("weights 0\n", [0], [])
        self.check_read("weights 1000 0 999 10\n", [1000, 0, 999, 10], [])

    def test_ropes(self):
        self.check_read("weights 20 10\nrope 0:2 1:-1\n", [20, 10], [[2, -1]])
        self.check_read("weights 1 2 3\nrope 2:9\nrope\nrope 0:-9 2:1\n", [1, 2, 3], [[0, 0, 9], [0, 0, 0], [-9, 0, 1]])

    def test_four_bodies_and_five_ropes(self):
        rope = "rope 0:-9 1:-9 2:-9 3:-9\n"
        self.check_read("weights 1000 1000 1000 1000\n" + 5 * rope, [1000] * 4, [[-9] * 4] * 5)

    def test_many_drawn_hoists_are_read_as_they_were_shown(self):
        drawn = Drawn(13)
        for turn in range(MANY):
            hoist = drawn.either_hoist()
            text = shown(hoist)
            self.assertTrue(writes_a_hoist(text), text)
            self.check_read(text, hoist.weights(), table(hoist))
            self.assertEqual(shown(read(text)), text)

    def test_what_is_read_is_its_askers_own(self):
        text = "weights 20 10\nrope 0:2\n"
        one, other = read(text), read(text)
        one.weights().append(5)
        self.assertEqual((one.weights(), other.weights()), ([20, 10], [20, 10]))


class RefusedTest(unittest.TestCase):
    def check_refused(self, *texts):
        for text in texts:
            with self.subTest(text=text):
                self.assertFalse(writes_a_hoist(text))
                self.assertRaises(BadText, read, text)

    def test_empty(self):
        self.check_refused("", "\n", " ", "\n\n", "\t")

    def test_line_ends(self):
        self.check_refused("weights 5", "weights 5\n\n", "\nweights 5\n", "weights 5\nrope 0:1", "weights 5\nrope",
                           "weights 5\n\nrope 0:1\n", "weights 5\nrope 0:1\n\n", "weights\n5\n", "weights 5 rope 0:1\n",
                           "weights 5\nrope\n0:1\n", "weights 5\nrope 0:1\nrope")

    def test_blanks(self):
        self.check_refused("weights  5\n", "weights 5 \n", " weights 5\n", "weights 5  6\n", "weights5\n",
                           "weights 5\nrope \n", "weights 5\n rope\n", "weights 5\nrope  0:1\n",
                           "weights 5\nrope 0:1 \n", "weights 5\nrope0:1\n", "weights 5\nrope 0 :1\n",
                           "weights 5\nrope 0: 1\n", "weights 5\n \n", "weights 5\n ",
                           "weights 5 6\nrope 0:11:1\n", "weights 5\nrope 0:- 1\n")

    def test_tabs(self):
        self.check_refused("weights\t5\n", "weights 5\t\n", "\tweights 5\n", "weights 5\t6\n", "weights 5\nrope\t0:1\n",
                           "weights 5\nrope\t\n", "weights 5\nrope 0:1\t\n", "weights 5\nrope 0:\t1\n",
                           "weights \t5\n", "weights 5\n\t")

    def test_other_words(self):
        self.check_refused("weight 5\n", "Weights 5\n", "WEIGHTS 5\n", "weightss 5\n", "5\n", "rope 0:1\n", "hoist 5\n",
                           "weights 5\nropes 0:1\n", "weights 5\nRope 0:1\n", "weights 5\n0:1\n",
                           "weights 5\nweights 5\n",
                           "weights 5\nrop 0:1\n", "rope 0:1\nweights 5\n", "weights 5\nrope 0:1\nweights 5\n",
                           "weights 5\nrope rope 0:1\n", "weights weights 5\n", "weights five\n", "weights 0x5\n",
                           "weights 5 x\n", "weights 5\nrope x\n", "weights 5\nrope x:1\n", "weights 5\nrope 0:x\n")

    def test_other_signs(self):
        self.check_refused("weights 5,6\n", "weights 5.0\n", "weights 1e2\n", "weights 1_0\n", "weights (5)\n",
                           "weights 5;\n", "weights -5\n", "weights 5\nrope 0=1\n", "weights 5\nrope 0;1\n",
                           "weights 5\nrope 0:1,\n", "weights 5\nrope 0:1_0\n", "weights 5\nrope 0:--1\n",
                           "weights 5\nrope 0:1/2\n", "weights 5\nrope 0:1~\n", "weights 5\nrope 0:1 #\n",
                           "#\nweights 5\n", "weights ~5\n", "weights 5\nrope 0_0:1\n")

    def test_too_few_or_too_many_weights(self):
        self.check_refused("weights\n", "weights \n", "weights\nrope\n", "weights 1 2 3 4 5\n",
                           "weights 0 0 0 0 0\nrope\n")

    def test_six_ropes(self):
        self.check_refused("weights 5\n" + 6 * "rope 0:1\n", "weights 5\n" + 6 * "rope\n")

    def test_weights_beyond_their_bounds(self):
        self.check_refused("weights 1001\n", "weights 5 1001\n", "weights -1\n", "weights 10000\n",
                           "weights " + 700 * "9" + "\n")

    def test_numbers_beyond_their_bounds(self):
        self.check_refused("weights 5\nrope 0:10\n", "weights 5\nrope 0:-10\n", "weights 5\nrope 0:99\n",
                           "weights 5\nrope 0:" + 700 * "9" + "\n", "weights 5\nrope 0:-" + 700 * "9" + "\n")

    def test_pairs_of_nought(self):
        self.check_refused("weights 5\nrope 0:0\n", "weights 5 6\nrope 0:1 1:0\n", "weights 5 6\nrope 0:0 1:1\n")

    def test_bodies_that_do_not_rise(self):
        self.check_refused("weights 5 6\nrope 1:1 0:1\n", "weights 5 6\nrope 0:1 0:1\n", "weights 5\nrope 0:1 0:-1\n",
                           "weights 5 6 7\nrope 0:1 2:1 1:1\n", "weights 5\nrope" + 13 * " 0:1" + "\n",
                           "weights 5 6\nrope 1:1 1:1\n")

    def test_bodies_that_are_not_there(self):
        self.check_refused("weights 5\nrope 1:1\n", "weights 5\nrope 0:1 1:1\n", "weights 5\nrope -1:1\n",
                           "weights 5 6 7 8\nrope 4:1\n", "weights 5\nrope " + 700 * "9" + ":1\n")

    def test_numbers_with_a_nought_ahead(self):
        self.check_refused("weights 05\n", "weights 00\n", "weights 5\nrope 00:1\n", "weights 5\nrope 0:01\n",
                           "weights 5\nrope 0:-01\n", "weights 5 6\nrope 01:1\n", "weights 0005 6\n")

    def test_a_plus(self):
        self.check_refused("weights +5\n", "weights 5\nrope +0:1\n", "weights 5\nrope 0:+1\n", "weights +0\n")

    def test_nought_below_nought(self):
        self.check_refused("weights -0\n", "weights 5\nrope -0:1\n", "weights 5\nrope 0:-0\n", "weights 5\nrope 0:-\n")

    def test_a_missing_or_second_colon(self):
        self.check_refused("weights 5\nrope 0\n", "weights 5\nrope 01\n", "weights 5\nrope 0::1\n",
                           "weights 5\nrope :\n",
                           "weights 5\nrope 0:1:1\n", "weights 5\nrope :0:1\n", "weights 5\nrope 0:1:\n",
                           "weights 5\nrope :1\n", "weights 5\nrope 0:\n", "weights 5\nrope: 0:1\n", "weights: 5\n",
                           "weights 5:\n", "weights 0:5\n", "weights 5\nrope 0 1\n", "weights 5\nrope : 0:1\n")


class AnyTextTest(unittest.TestCase):
    """Texts of all kinds: each is read to the hoist that it writes or refused with BadText."""

    def check_text(self, text):
        wanted = writes_a_hoist(text)
        try:
            hoist = read(text)
        except BadText:
            self.assertFalse(wanted, repr(text))
        else:
            self.assertTrue(wanted, repr(text))
            self.assertEqual(shown(hoist), text)
        return wanted

    def test_texts_of_any_signs(self):
        drawn = Drawn(130)
        for turn in range(MANY):
            many = drawn.one_of((1, 2, 5, 20, 100, 800))
            self.check_text("".join(drawn.one_of(SIGNS) for place in range(many)))

    def test_texts_of_fitting_words(self):
        drawn = Drawn(131)
        words = ("weights", "rope", " ", " ", " ", "\n", "\n", ":", "0", "1", "2", "-", "+", "9", "10", "0:1", "1:-2")
        for turn in range(MANY):
            many = drawn.number(0, 12)
            ahead = drawn.one_of(("", "weights 5", "weights 5 6\n", "weights 5 6\nrope"))
            self.check_text(ahead + "".join(drawn.one_of(words) for place in range(many)))

    def test_hoists_with_a_sign_changed(self):
        drawn = Drawn(132)
        found = 0
        for turn in range(3 * MANY):
            text = shown(drawn.either_hoist())
            place = drawn.number(0, len(text))
            behind = place + drawn.number(0, 1)
            put = drawn.one_of(("", drawn.one_of(SIGNS), drawn.one_of("0123456789- :\n\t+")))
            found += self.check_text(text[:place] + put + text[behind:])
        self.assertGreater(found, 100)

    def test_every_sign_at_every_place(self):
        text = "weights 5 6\nrope 0:1 1:-2\nrope\n"
        for place in range(len(text) + 1):
            for sign in SIGNS:
                self.check_text(text[:place] + sign + text[place:])
                self.check_text(text[:place] + sign + text[place + 1:])
            self.check_text(text[:place] + text[place + 1:])
            self.check_text(text[:place])


if __name__ == "__main__":
    unittest.main()
