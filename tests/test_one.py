import itertools
import math
import random
import unittest

import samples
from strandwright.canon import canon, renamed
from strandwright.deeds import done
from strandwright.deedtexts import show_row
from strandwright.drawing import drawing
from strandwright.errors import Lacks
from strandwright.joints import joints_of
from strandwright.one import amid_one, fewest_one, firsts_one, row_one, rows_one
from strandwright.texts import read_set, show_set

ASKED = (fewest_one, firsts_one, row_one, rows_one)


def behind_by_one(sets):
    """Cuts and joins alone: they have another number of joints ahead than behind."""
    return {some: [(deed, other) for deed, other in pairs if len(deed[0]) != len(deed[1])]
            for some, pairs in samples.all_behind(sets).items()}


def pairs_of(some):
    return {joint for joint in joints_of(some) if len(joint) == 2}


def ups_and_downs(most):
    """The numbers 1, 1, 1, 2, 5, 16, 61 .. by the sum that their doubles are."""
    found = [1, 1]
    while len(found) <= most:
        last = len(found) - 1
        found.append(sum(math.comb(last, k) * found[k] * found[last - k] for k in range(last + 1)) // 2)
    return found[most]


def ups_and_downs_listed(most):
    rows = itertools.permutations(range(1, most + 1))
    return sum(all((row[k] < row[k + 1]) == (k % 2 == 0) for k in range(most - 1)) for row in rows)


def rows_by_words(one, other):
    """Point 20, word by word."""
    count = math.factorial(fewest_one(one, other))
    ways = 1
    for kind, ours, theirs in drawing(one, other):
        apart = len([joint for joint in set(ours) ^ set(theirs) if len(joint) == 2])
        count = count // math.factorial(apart)
        if kind == "ring" and apart:
            ways *= len(ours) * ups_and_downs(2 * len(ours) - 1)
        else:
            ways *= ups_and_downs(apart)
    return count * ways


class All(unittest.TestCase):
    """Against a plain search over all rows of cuts and joins, for all sets of up to three beads."""

    def test_fewest_firsts_and_rows(self):
        for count in (0, 1, 2, 3):
            sets = samples.all_sets(count)
            behind = behind_by_one(sets)
            found = {one: samples.rows_from(one, behind) for one in sets}
            for one, other in itertools.product(sets, repeat=2):
                fewest, rows = found[one][other]
                self.assertEqual(fewest_one(one, other), fewest)
                self.assertEqual(rows_one(one, other), rows)
                self.assertEqual(firsts_one(one, other),
                                 sorted(deed for deed, some in behind[one] if found[some][other][0] < fewest))
                self.assertTrue(all(abs(found[some][other][0] - fewest) == 1 for deed, some in behind[one]))

    def test_a_row(self):
        for count in (0, 1, 2, 3):
            for one, other in itertools.product(samples.all_sets(count), repeat=2):
                row = row_one(one, other)
                samples.check_row(self, one, other, row, fewest_one(one, other))
                self.assertTrue(all(len(deed[0]) != len(deed[1]) for deed in row))

    def test_rows_of_four(self):
        sets = samples.all_sets(4)
        behind = behind_by_one(sets)
        for one in sets[::97]:
            found = samples.rows_from(one, behind)
            for other in sets:
                self.assertEqual((fewest_one(one, other), rows_one(one, other)), found[other])


class Fewest(unittest.TestCase):
    def test_some(self):
        for one, other, told in (("", "", 0), ("(a)", "[a]", 1), ("[a]", "(a)", 1), ("[a]", "[-a]", 0), ("[a b]", "[b a]", 2),
                                 ("(a b)", "(a -b)", 4), ("(a b)", "(b a)", 0), ("[a] [b] [c]", "(a b c)", 3),
                                 ("[a b c]", "[c] (a b)", 2), ("[a b c d]", "[a c b d]", 6), ("[c a] (b)", "[b a c]", 4)):
            self.assertEqual(fewest_one(read_set(one), read_set(other)), told, (one, other))

    def test_forty_beads(self):
        ring, strand, rings, alone = samples.sets_of_forty()
        self.assertEqual([fewest_one(one, rings) for one in (ring, strand, rings, alone)], [80, 79, 0, 40])
        for seed in range(5):
            one, other = samples.large_set(seed), samples.large_set(seed + 50)
            self.assertEqual(fewest_one(one, other), len(pairs_of(one) ^ pairs_of(other)))
            self.assertEqual(fewest_one(one, other), fewest_one(other, one))
            samples.check_row(self, one, other, row_one(one, other), fewest_one(one, other))


class Firsts(unittest.TestCase):
    def test_some(self):
        for one, other, told in (("", "", ""), ("(a)", "[a]", "<a~a> to <a a>"), ("[a]", "(a)", "<a a> to <a~a>"),
                                 ("[a] [b]", "[b -a]", "a> b> to a>~b>"), ("(a b)", "(b a)", ""),
                                 ("[a b]", "[b a]", "<a b> to <a~b>\na>~<b to a> <b"),
                                 ("[a b] [c]", "[c b] [a]", "a>~<b to a> <b"),
                                 ("(a b)", "(a -b)", "<a~b> to <a b>\na>~<b to a> <b")):
            self.assertEqual(show_row(firsts_one(read_set(one), read_set(other))), told, (one, other))

    def test_twelve_beads(self):
        for seed in range(6):
            one, other = samples.large_set(seed, 12), samples.large_set(seed + 50, 12)
            fewest = fewest_one(one, other)
            deeds = behind_by_one([one])[one]
            self.assertEqual(firsts_one(one, other),
                             sorted(deed for deed, some in deeds if fewest_one(some, other) == fewest - 1))

    def test_lists_are_the_askers_own(self):
        one, other = read_set("[a b] (c)"), read_set("[c -a] [b]")
        for asked in (firsts_one, row_one):
            samples.check_own_list(self, asked, one, other)


class Rows(unittest.TestCase):
    def test_the_numbers(self):
        self.assertEqual([ups_and_downs(most) for most in range(7)], [1, 1, 1, 2, 5, 16, 61])
        self.assertEqual([ups_and_downs(most) for most in range(8)], [ups_and_downs_listed(most) for most in range(8)])

    def test_parts_of_every_kind(self):
        for one, other, told in (("", "", 1), ("(a)", "(a)", 1), ("(a)", "[a]", 1), ("[a]", "(a)", 1), ("[a] [b]", "(a) (b)", 2),
                                 ("(a b)", "(a) (b)", 2 * 2), ("(a b c)", "(a) (b) (c)", 3 * 16),
                                 ("(a b c d)", "(a) (b) (c) (d)", 4 * 272), ("[a -b]", "[a b]", 1), ("[a b]", "(a) (b)", 2),
                                 ("(a) (b)", "[a b]", 2), ("[a b c]", "(a) (b) (c)", 16), ("[a b c]", "[a c b]", 5),
                                 ("(a b) [c]", "(a) (b) (c)", 5 * 4), ("(a b) (c d)", "(a -b) (c -d)", 70 * 4 * 4)):
            self.assertEqual(rows_one(read_set(one), read_set(other)), told, (one, other))
            self.assertEqual(rows_one(read_set(other), read_set(one)), told, (one, other))

    def test_ways_of_ours_and_of_theirs_at_once(self):
        self.assertEqual(rows_one(read_set("[a] (b)"), read_set("(a) [b]")), 2)
        self.assertEqual(rows_one(read_set("[a b]"), read_set("[b a]")), 2)

    def test_forty_beads(self):
        ring, strand, rings, alone = samples.sets_of_forty()
        for one, other, told in ((ring, rings, 40 * ups_and_downs(79)), (strand, rings, ups_and_downs(79)),
                                 (alone, rings, math.factorial(40)), (strand, alone, math.factorial(39)),
                                 (ring, strand, 1), (ring, ring, 1), (alone, alone, 1)):
            self.assertEqual(rows_one(one, other), told)
            self.assertEqual(rows_one(other, one), told)
        for seed in range(10):
            one, other = samples.large_set(seed), samples.large_set(seed + 50)
            self.assertEqual(rows_one(one, other), rows_by_words(one, other))


class Whole(unittest.TestCase):
    def test_the_same_set_told_otherwise(self):
        for some in samples.all_written(["a", "b"]) + [samples.large_set(seed) for seed in range(4)]:
            other = samples.rewritten(some, 3)
            self.assertEqual([asked(some, other) for asked in ASKED], [0, [], [], 1])

    def test_however_the_sets_are_written(self):
        for seed in range(5):
            one, other = samples.large_set(seed, 9), samples.large_set(seed + 50, 9)
            mine, yours = samples.rewritten(one, seed), samples.rewritten(other, seed)
            self.assertEqual([asked(mine, yours) for asked in ASKED], [asked(one, other) for asked in ASKED])

    def test_with_beads_renamed(self):
        names = dict(zip(samples.names(40), ["-" + name for name in samples.names(40)[::-1]]))
        for seed in range(5):
            one, other = samples.large_set(seed), samples.large_set(seed + 50)
            mine, yours = renamed(one, names), renamed(other, names)
            self.assertEqual(fewest_one(mine, yours), fewest_one(one, other))
            self.assertEqual(rows_one(mine, yours), rows_one(one, other))

    def test_beads_that_stand_in_one_alone(self):
        for asked in ASKED:
            samples.check_lacks(self, asked)


class Amid(unittest.TestCase):
    def told(self, *texts):
        return show_set(amid_one([read_set(text) for text in texts]))

    def test_some(self):
        self.assertEqual(self.told("[-a] (c b)"), "[a] (b c)")
        self.assertEqual(self.told(""), "")
        self.assertEqual(self.told("", "", ""), "")
        self.assertEqual(self.told("[a b]", "[b a]", "[a] [b]"), "[a] [b]")
        self.assertEqual(self.told("[a b]", "[-b -a]", "[b a]"), "[a b]")
        self.assertEqual(self.told("[a b c]", "[a b] [c]", "[a] [b c]"), "[a b c]")
        self.assertEqual(self.told("[a b]", "(a b)", "[b a]"), "(a b)")
        self.assertEqual(self.told("(a)", "(a)", "[a]", "[a]", "[a]"), "[a]")

    def test_least_and_alone_so_small(self):
        for count, size, tries in ((0, 3, 1), (1, 3, 8), (1, 5, 8), (2, 3, 60), (2, 5, 60), (3, 3, 30), (3, 5, 30), (3, 7, 20)):
            sets = samples.all_sets(count)
            chance = random.Random(count * size)
            for turn in range(tries):
                some = [chance.choice(sets) for number in range(size)]
                sums = {one: sum(fewest_one(one, other) for other in some) for one in sets}
                least = min(sums.values())
                self.assertEqual([one for one in sets if sums[one] == least], [amid_one(some)])

    def test_all_threes_of_two_beads(self):
        sets = samples.all_sets(2)
        for some in itertools.product(sets, repeat=3):
            sums = {one: sum(len(pairs_of(one) ^ pairs_of(other)) for other in some) for one in sets}
            self.assertEqual(amid_one(list(some)), min(sets, key=sums.get))

    def test_forty_beads(self):
        for seed in range(3):
            base = samples.large_set(seed)
            some = [done(base, deed) for deed, other in behind_by_one([base])[base][seed::5]]
            some = [samples.rewritten(one, seed) for one in some[:len(some) // 2 * 2 - 1]]
            self.assertGreaterEqual(len(some), 3)
            told = amid_one(some)
            self.assertEqual(told, canon(told))
            self.assertEqual(pairs_of(told), {joint for one in some for joint in pairs_of(one)
                                              if sum(joint in pairs_of(other) for other in some) > len(some) / 2})

    def test_unlike_beads(self):
        for texts, name in ((("[a]", "[a b]", "[a b]"), "b"), (("[b c]", "[b c a]", "[b]"), "a"), (("", "", "(x)"), "x"),
                            (("[d c]", "[d c]", "[d b]"), "b"), (("[a b]", "[a b]", "[a b]", "[a b]", "[a]"), "b"),
                            (("[b]", "[c]", "[d]"), "b")):
            for order in itertools.permutations(texts):
                with self.assertRaises(Lacks) as taken:
                    self.told(*order)
                self.assertEqual(taken.exception.name, name)

    def test_the_list_is_not_changed(self):
        some = [read_set(text) for text in ("(c b) [a]", "[c -b a]", "[-a] [b -c]")]
        whole = list(some)
        first = amid_one(some)
        self.assertEqual(some, whole)
        self.assertEqual(amid_one(some), first)


if __name__ == "__main__":
    unittest.main()
