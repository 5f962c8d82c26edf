import itertools
import math
import unittest

import samples
from strandwright.canon import canon, renamed
from strandwright.deeds import deeds_from, done
from strandwright.drawing import drawing
from strandwright.errors import Mixed
from strandwright.texts import read_set
from strandwright.two import fewest_two, firsts_two, row_two, rows_two

# By the kinds of its part, how many deeds fewer than its joints of ours are needed.
LESS = {"ring": 1, "odd": 1, "ours": 1, "theirs": 0}


def has_both(one, other):
    kinds = [part[0] for part in drawing(one, other)]
    return "ours" in kinds and "theirs" in kinds


def rows_by_words(one, other):
    """Point 18, word by word."""
    deeds = [len(part[1]) - LESS[part[0]] for part in drawing(one, other)]
    count = math.factorial(fewest_two(one, other))
    for number in deeds:
        count = count // math.factorial(number)
    return count * math.prod((number + 1) ** (number - 1) for number in deeds if number > 0)


class All(unittest.TestCase):
    """Against a plain search over all rows, for all sets of up to three beads."""

    def test_fewest_firsts_and_rows(self):
        for count in (0, 1, 2, 3):
            sets = samples.all_sets(count)
            behind = samples.all_behind(sets)
            found = {one: samples.rows_from(one, behind) for one in sets}
            for one, other in itertools.product(sets, repeat=2):
                fewest, rows = found[one][other]
                self.assertEqual(fewest_two(one, other), fewest)
                self.assertEqual(firsts_two(one, other),
                                 sorted(deed for deed, some in behind[one] if found[some][other][0] < fewest))
                if has_both(one, other):
                    self.assertRaises(Mixed, rows_two, one, other)
                else:
                    self.assertEqual(rows_two(one, other), rows)

    def test_a_row(self):
        for count in (0, 1, 2, 3):
            for one, other in itertools.product(samples.all_sets(count), repeat=2):
                samples.check_row(self, one, other, row_two(one, other), fewest_two(one, other))

    def test_some_sets_of_four(self):
        sets = samples.all_sets(4)
        for one, other in zip(sets[::19], sets[::-23] * 2):
            fewest = fewest_two(one, other)
            falls = [deed for deed in deeds_from(one) if fewest_two(done(one, deed), other) == fewest - 1]
            self.assertEqual(firsts_two(one, other), sorted(falls))


class Fewest(unittest.TestCase):
    def test_some(self):
        for one, other, told in (("", "", 0), ("(a)", "[a]", 1), ("[a]", "(a)", 1), ("[a]", "[-a]", 0), ("[a b]", "[b a]", 2),
                                 ("(a b c)", "(b -c -a)", 2), ("[a] [b] [c]", "(a b c)", 3), ("(a b)", "[a] [b]", 2),
                                 ("[a b c d]", "[d c b a]", 4), ("[a b]", "[-b -a]", 0), ("[c a] (b)", "[b a c]", 3)):
            self.assertEqual(fewest_two(read_set(one), read_set(other)), told, (one, other))

    def test_forty_beads(self):
        ring, strand, rings, alone = samples.sets_of_forty()
        self.assertEqual([fewest_two(one, rings) for one in (ring, strand, rings, alone)], [39, 40, 0, 40])
        for seed in range(5):
            one, other = samples.large_set(seed), samples.large_set(seed + 50)
            self.assertEqual(fewest_two(other, one), fewest_two(one, other))
            samples.check_row(self, one, other, row_two(one, other), fewest_two(one, other))


class Firsts(unittest.TestCase):
    def test_some(self):
        self.assertEqual(firsts_two((), ()), [])
        a0, a1 = ("a", 0), ("a", 1)
        self.assertEqual(firsts_two(read_set("(a)"), read_set("[a]")), [(((a0, a1),), ((a0,), (a1,)))])
        self.assertEqual(firsts_two(read_set("[a]"), read_set("(a)")), [(((a0,), (a1,)), ((a0, a1),))])
        self.assertEqual(firsts_two(read_set("[a b]"), read_set("[-b -a]")), [])

    def test_twelve_beads(self):
        for seed in range(4):
            one, other = samples.large_set(seed, 12), samples.large_set(seed + 50, 12)
            fewest = fewest_two(one, other)
            told = firsts_two(one, other)
            self.assertEqual(told, sorted(deed for deed in deeds_from(one)
                                          if fewest_two(done(one, deed), other) == fewest - 1))
            self.assertTrue(told)

    def test_the_list_is_the_askers_own(self):
        one, other = read_set("[a b] (c)"), read_set("[c -a] [b]")
        for asked in (firsts_two, row_two):
            samples.check_own_list(self, asked, one, other)


class Rows(unittest.TestCase):
    def test_some(self):
        for one, other, told in (("", "", 1), ("(a)", "[a]", 1), ("(a b)", "[a] [b]", 2), ("[a] [b] [c]", "(a) (b) (c)", 6),
                                 ("(a b c)", "(a) (b) (c)", 3), ("[a b c]", "(a) (b) (c)", 16), ("(a b c d)", "(a) (b) (c) (d)", 16),
                                 ("(a) (b) (c)", "[a b c]", 16), ("[a -b]", "[-b -a]", 1)):
            self.assertEqual(rows_two(read_set(one), read_set(other)), told, (one, other))

    def test_mixed(self):
        for one, other in (("[a] (b)", "(a) [b]"), ("(a) [b]", "[a] (b)"), ("[c] (b) (a)", "[b] (c) (a)"),
                           ("[c d] (a b)", "[a] [b] (c d)"), ("[a b]", "[b a]")):
            one, other = read_set(one), read_set(other)
            self.assertTrue(has_both(one, other), one)
            self.assertRaises(Mixed, rows_two, one, other)
            self.assertRaises(Mixed, rows_two, other, one)

    def test_forty_beads(self):
        ring, strand, rings, alone = samples.sets_of_forty()
        for one, other, told in ((ring, rings, 40 ** 38), (strand, rings, 41 ** 39), (rings, strand, 41 ** 39),
                                 (alone, rings, math.factorial(40)), (rings, alone, math.factorial(40)),
                                 (strand, alone, math.factorial(39)), (alone, strand, math.factorial(39)),
                                 (ring, alone, math.factorial(40)), (ring, strand, 1), (ring, ring, 1), (alone, alone, 1)):
            self.assertEqual(rows_two(one, other), told)
        mixed = 0
        for seed in range(30):
            one, other = samples.large_set(seed), samples.large_set(seed + 50)
            if has_both(one, other):
                mixed += 1
                self.assertRaises(Mixed, rows_two, one, other)
            else:
                self.assertEqual(rows_two(one, other), rows_by_words(one, other))
        self.assertTrue(0 < mixed < 30)

    def test_small_sets_by_words(self):
        sets = samples.all_sets(4)
        for one, other in zip(sets[::7], sets[::-11] * 2):
            if not has_both(one, other):
                self.assertEqual(rows_two(one, other), rows_by_words(one, other))


class Whole(unittest.TestCase):
    def test_the_same_set_told_otherwise(self):
        for some in samples.all_written(["a", "b"]) + [samples.large_set(seed) for seed in range(4)]:
            other = samples.rewritten(some, 3)
            self.assertEqual(fewest_two(some, other), 0)
            self.assertEqual(row_two(some, other), [])
            self.assertEqual(firsts_two(some, other), [])
            self.assertEqual(rows_two(some, other), 1)

    def test_however_the_sets_are_written(self):
        for seed in range(5):
            one, other = samples.large_set(seed, 9), samples.large_set(seed + 50, 9)
            mine, yours = samples.rewritten(one, seed), samples.rewritten(other, seed)
            self.assertEqual(fewest_two(mine, yours), fewest_two(one, other))
            self.assertEqual(firsts_two(mine, yours), firsts_two(one, other))
            self.assertEqual(samples.set_behind(mine, row_two(mine, yours)), canon(other))

    def test_rows_of_twelve_beads(self):
        for seed in range(20):
            one, other = samples.large_set(seed, 12), samples.large_set(seed + 50, 12)
            samples.check_row(self, one, other, row_two(one, other), fewest_two(one, other))

    def test_with_beads_renamed(self):
        names = dict(zip(samples.names(12), ["-" + name for name in samples.names(12)[::-1]]))
        for seed in range(5):
            one, other = samples.large_set(seed, 12), samples.large_set(seed + 50, 12)
            mine, yours = renamed(one, names), renamed(other, names)
            self.assertEqual(fewest_two(mine, yours), fewest_two(one, other))
            self.assertEqual(len(firsts_two(mine, yours)), len(firsts_two(one, other)))

    def test_beads_that_stand_in_one_alone(self):
        mixed = ("[a] (b) [d]", "(a) [b] [c]", "c")
        for asked in (fewest_two, firsts_two, row_two, rows_two):
            samples.check_lacks(self, asked, (mixed,))


if __name__ == "__main__":
    unittest.main()
