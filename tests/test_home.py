import itertools
import unittest

import samples
from strandwright.canon import canon
from strandwright.deeds import done
from strandwright.errors import NotLet
from strandwright.home import fewest_home, firsts_home, row_home
from strandwright.texts import read_set
from strandwright.two import fewest_two, firsts_two, row_two

ASKED = (fewest_home, firsts_home, row_home)


def rings_in(some):
    return sum(strand[0] == "ring" for strand in some)


def sets_of_walk(some, row):
    walk = [canon(some)]
    for deed in row:
        walk.append(done(walk[-1], deed))
    return walk


def keeps_the_book(walk):
    return not any(rings_in(one) and rings_in(other) for one, other in zip(walk, walk[1:]))


def ringless(seed, count):
    return samples.large_set(seed, count, ("open",))


class All(unittest.TestCase):
    """Against a plain search over all rows of the book, for all sets without rings of up to three beads."""

    def test_fewest_firsts_and_row(self):
        for count in (0, 1, 2, 3):
            sets = samples.all_sets(count)
            behind = samples.all_behind(sets)
            let = {some: [(deed, other) for deed, other in behind[some] if not (rings_in(some) and rings_in(other))]
                   for some in sets}
            found = {some: samples.rows_from(some, let) for some in sets}
            over_rings = 0
            for one, other in itertools.product([some for some in sets if not rings_in(some)], repeat=2):
                fewest = found[one][other][0]
                self.assertEqual(fewest_home(one, other), fewest)
                self.assertEqual(firsts_home(one, other),
                                 sorted(deed for deed, some in let[one] if found[some][other][0] == fewest - 1))
                walk = sets_of_walk(one, row_home(one, other))
                self.assertEqual((len(walk) - 1, walk[-1]), (fewest, other))
                self.assertTrue(keeps_the_book(walk), walk)
                over_rings += any(rings_in(some) for some in walk)
            self.assertEqual(over_rings > 0, count > 1)

    def test_a_first_deed_makes_one_ring_at_most_and_it_goes_at_once(self):
        for one, other in itertools.product([some for some in samples.all_sets(3) if not rings_in(some)], repeat=2):
            for deed in firsts_home(one, other):
                some = done(one, deed)
                self.assertLessEqual(rings_in(some), 1)
                if rings_in(some):
                    self.assertTrue(any(not rings_in(done(some, next_one)) for next_one in firsts_two(some, other)))


class Some(unittest.TestCase):
    def test_some(self):
        for one, other, told in (("", "", 0), ("[a]", "[-a]", 0), ("[a b]", "[a] [b]", 1), ("[a b]", "[b a]", 2),
                                 ("[a b c]", "[c b a]", 2), ("[a] [b c]", "[c -a b]", 3), ("[a b c]", "[a c b]", 2)):
            self.assertEqual(fewest_home(read_set(one), read_set(other)), told, (one, other))

    def test_a_row_over_a_ring(self):
        one, other = read_set("[a b c d]"), read_set("[a c b d]")
        walk = sets_of_walk(one, row_home(one, other))
        self.assertEqual([rings_in(some) for some in walk], [0, 1, 0])
        self.assertEqual(walk[-1], other)

    def test_rows_of_twelve_beads(self):
        breaks = 0
        for seed in range(40):
            one, other = ringless(seed, 12), ringless(seed + 50, 12)
            row = row_home(one, other)
            samples.check_row(self, one, other, row, fewest_home(one, other))
            self.assertTrue(keeps_the_book(sets_of_walk(one, row)))
            breaks += not keeps_the_book(sets_of_walk(one, row_two(one, other)))
        self.assertGreater(breaks, 0)

    def test_fewest_and_firsts_as_by_two(self):
        for seed in range(5):
            one, other = ringless(seed, 40), ringless(seed + 50, 40)
            self.assertEqual(fewest_home(one, other), fewest_two(one, other))
            one, other = ringless(seed, 12), ringless(seed + 50, 12)
            self.assertEqual(firsts_home(one, other), firsts_two(one, other))
            self.assertTrue(firsts_home(one, other))

    def test_the_same_set_told_otherwise(self):
        for seed in range(5):
            some = ringless(seed, 12)
            other = samples.rewritten(some, seed)
            self.assertEqual([asked(some, other) for asked in ASKED], [0, [], []])

    def test_however_the_sets_are_written(self):
        for seed in range(5):
            one, other = ringless(seed, 9), ringless(seed + 50, 9)
            mine, yours = samples.rewritten(one, seed), samples.rewritten(other, seed)
            self.assertEqual(fewest_home(mine, yours), fewest_home(one, other))
            self.assertEqual(firsts_home(mine, yours), firsts_home(one, other))
            self.assertEqual(sets_of_walk(mine, row_home(mine, yours))[-1], canon(other))

    def test_lists_are_the_askers_own(self):
        one, other = read_set("[a b c] [d]"), read_set("[a c] [-d b]")
        for asked in (firsts_home, row_home):
            samples.check_own_list(self, asked, one, other)


class Refused(unittest.TestCase):
    def test_a_ring_as_first_and_as_second(self):
        for one, other in (("(a)", "[a]"), ("[a b]", "(a) [b]"), ("[a] [b] (c)", "[c b a]"), ("(a)", "(a)"), ("(a b)", "(b -a)")):
            for first, second in ((one, other), (other, one)):
                for asked in ASKED:
                    with self.assertRaises(NotLet) as taken:
                        asked(read_set(first), read_set(second))
                    self.assertEqual(taken.exception.book, "home")

    def test_beads_that_stand_in_one_alone_go_first(self):
        for asked in ASKED:
            samples.check_lacks(self, asked, (("[a c]", "[b] (a)", "b"), ("[c]", "[a -b]", "a")))


if __name__ == "__main__":
    unittest.main()
