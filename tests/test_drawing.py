import itertools
import random
import unittest

import samples
from strandwright.canon import canon, renamed
from strandwright.drawing import drawing, sum_of
from strandwright.joints import joints_of
from strandwright.texts import read_set

A0, A1, B0, B1, C0, C1 = ((name, side) for name in "abc" for side in (0, 1))


def drawn(one, other):
    return drawing(read_set(one), read_set(other))


def sum_by_words(count, parts):
    kinds = [part[0] for part in parts]
    return count - kinds.count("ring") - kinds.count("odd") // 2


class Drawing(unittest.TestCase):
    def test_of_the_empty_sets(self):
        self.assertEqual(drawing((), ()), [])

    def test_each_kind(self):
        self.assertEqual(drawn("(a)", "(a)"), [("ring", ((A0, A1),), ((A0, A1),))])
        self.assertEqual(drawn("[a]", "[a]"), [("odd", ((A0,),), ((A0,),)), ("odd", ((A1,),), ((A1,),))])
        self.assertEqual(drawn("[a]", "(a)"), [("ours", ((A0,), (A1,)), ((A0, A1),))])
        self.assertEqual(drawn("(a)", "[a]"), [("theirs", ((A0, A1),), ((A0,), (A1,)))])
        self.assertEqual(drawn("[a b]", "[a -b]"), [("odd", ((A0,),), ((A0,),)),
                                                    ("odd", ((A1, B0), (B1,)), ((A1, B1), (B0,)))])
        self.assertEqual(drawn("(a b)", "(a -b)"), [("ring", ((A0, B1), (A1, B0)), ((A0, B0), (A1, B1)))])

    def test_sorted_with_all_kinds_at_once(self):
        self.assertEqual(drawn("(c) [b a]", "(a -b) [-c]"), [
            ("ours", ((A0, B1), (A1,), (B0,)), ((A0, B0), (A1, B1))), ("theirs", ((C0, C1),), ((C0,), (C1,)))])
        self.assertEqual(drawn("[c d] [e] (a b) (f)", "[c] [d] (e) (a -b) [f]"), sorted([
            ("odd", ((C0,),), ((C0,),)), ("odd", ((("d", 1),),), ((("d", 1),),)),
            ("ours", ((("e", 0),), (("e", 1),)), ((("e", 0), ("e", 1)),)),
            ("ring", ((A0, B1), (A1, B0)), ((A0, B0), (A1, B1))),
            ("theirs", ((C1, ("d", 0)),), ((C1,), (("d", 0),))),
            ("theirs", ((("f", 0), ("f", 1)),), ((("f", 0),), (("f", 1),)))]))

    def test_all_small_sets(self):
        for count in (0, 1, 2, 3):
            for one, other in itertools.product(samples.all_sets(count), repeat=2):
                told = drawing(one, other)
                self.assertEqual(told, samples.parts_by_ties(joints_of(one), joints_of(other)))
                self.assertIsInstance(told, list)

    def test_forty_beads(self):
        for seed in range(6):
            one, other = samples.large_set(seed), samples.large_set(seed + 50)
            self.assertEqual(drawing(one, other), samples.parts_by_ties(joints_of(one), joints_of(other)))
        ring, strand, rings, alone = samples.sets_of_forty()
        self.assertEqual(drawing(ring, rings), [("ring", joints_of(ring), joints_of(rings))])
        self.assertEqual(drawing(strand, rings), [("ours", joints_of(strand), joints_of(rings))])

    def test_however_the_sets_are_written(self):
        for one, other in itertools.product(samples.all_written(["a", "b"]), repeat=2):
            self.assertEqual(drawing(one, other), drawing(canon(one), canon(other)))
        for seed in range(5):
            one, other = samples.large_set(seed), samples.large_set(seed + 7)
            self.assertEqual(drawing(samples.rewritten(one, seed), samples.rewritten(other, seed)), drawing(one, other))

    def test_beads_that_stand_in_one_alone(self):
        samples.check_lacks(self, drawing)

    def test_the_list_is_the_askers_own(self):
        one, other = read_set("[a b] (c)"), read_set("[c -a] [b]")
        samples.check_own_list(self, drawing, one, other)
        self.assertEqual((one, other), (read_set("[a b] (c)"), read_set("[c -a] [b]")))


class SumOf(unittest.TestCase):
    def test_some(self):
        self.assertEqual(sum_of([]), 0)
        for one, other, told in (("(a)", "(a)", 0), ("[a]", "[-a]", 0), ("[a]", "(a)", 1), ("(a)", "[a]", 1),
                                 ("[a b]", "[b a]", 2), ("[a b]", "[a -b]", 1), ("(a b)", "(b a)", 0),
                                 ("(a b) [c]", "[a b c]", 1), ("(c) [b a]", "(a -b) [-c]", 3)):
            self.assertEqual(sum_of(drawn(one, other)), told, (one, other))

    def test_all_small_sets(self):
        for count in (0, 1, 2, 3):
            for one, other in itertools.product(samples.all_sets(count), repeat=2):
                told = sum_of(drawing(one, other))
                self.assertEqual(told, sum_by_words(count, samples.parts_by_ties(joints_of(one), joints_of(other))))
                self.assertEqual(told == 0, one == other)
                self.assertEqual(told, sum_of(drawing(other, one)))
                self.assertIs(type(told), int)

    def test_parts_in_any_order(self):
        for order in itertools.permutations(drawn("(c) [b a]", "[a] [c b]")):
            parts = list(order)
            self.assertEqual(sum_of(parts), 2)
            self.assertEqual(parts, list(order))
        for seed in range(5):
            parts = drawing(samples.large_set(seed), samples.large_set(seed + 50))
            told = sum_of(parts)
            self.assertEqual(told, sum_by_words(40, parts))
            random.Random(seed).shuffle(parts)
            self.assertEqual(sum_of(parts), told)

    def test_forty_beads(self):
        ring, strand, rings, alone = samples.sets_of_forty()
        for one, other, told in ((ring, rings, 39), (strand, rings, 40), (alone, rings, 40), (strand, alone, 39),
                                 (ring, alone, 40), (ring, strand, 1), (ring, ring, 0), (alone, alone, 0)):
            self.assertEqual(sum_of(drawing(one, other)), told)
            self.assertEqual(sum_of(drawing(other, one)), told)

    def test_with_beads_renamed(self):
        names = {name: sign + other for name, other, sign in
                 zip(samples.names(40), samples.names(40)[7:] + samples.names(7), ["", "-", "-", ""] * 10)}
        for seed in range(5):
            one, other = samples.large_set(seed), samples.large_set(seed + 50)
            self.assertEqual(sum_of(drawing(renamed(one, names), renamed(other, names))), sum_of(drawing(one, other)))

    def test_never_more_over_a_third(self):
        sums = {pair: sum_of(drawing(*pair)) for pair in itertools.product(samples.all_sets(2), repeat=2)}
        for one, other, third in itertools.product(samples.all_sets(2), repeat=3):
            self.assertLessEqual(sums[one, third], sums[one, other] + sums[other, third])


if __name__ == "__main__":
    unittest.main()
