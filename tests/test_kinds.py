import itertools
import unittest

import samples
from strandwright.canon import canon
from strandwright.deeds import deeds_from, done
from strandwright.deedtexts import read_row
from strandwright.drawing import drawing, sum_of
from strandwright.errors import NoDeed
from strandwright.joints import joints_of
from strandwright.kinds import kinds_of, may_be
from strandwright.texts import read_set

KINDS = ("odd", "ours", "ring", "theirs")
TABLE = """
(ring,) | (ours,) -1; (ring,) 0; (ring, ring) 1
(odd,) | (odd,) 0; (odd, ours) 0; (odd, ring) 1
(ours,) | (ours,) 0; (ours, ours) 0; (ring,) 1; (ours, ring) 1
(theirs,) | (theirs,) 0; (ring, theirs) 1; (odd, odd) 1
(ring, ring) | (ring,) -1
(odd, ring) | (odd,) -1
(ours, ring) | (ours,) -1
(ring, theirs) | (theirs,) -1
(odd, odd) | (theirs,) -1; (ours, theirs) -1; (odd, odd) 0
(odd, ours) | (odd,) 0; (odd, ours) 0
(odd, theirs) | (odd, theirs) 0
(ours, ours) | (ours,) 0; (ours, ours) 0
(theirs, theirs) | (theirs, theirs) 0
(ours, theirs) | (odd, odd) 1
"""
# For each choice of the table a first set, a second set and a deed.
MET = """
[a] ; [a] ; <a a> to <a~a> ; (odd, odd) | (theirs,) -1
(a) ; [a] ; <a~a> to <a a> ; (theirs,) | (odd, odd) 1
(a) ; (a) ; <a~a> to <a a> ; (ring,) | (ours,) -1
[a] ; (a) ; <a a> to <a~a> ; (ours,) | (ring,) 1
(a b) ; (a) (b) ; <a~b> a>~<b to <a~a> <b~b> ; (ring,) | (ring, ring) 1
(a) (b) ; (b) (a) ; <a~a> <b~b> to <a~b> a>~<b ; (ring, ring) | (ring,) -1
(a b) ; (a) (b) ; <a~b> a>~<b to <a~<b a>~b> ; (ring,) | (ring,) 0
[a] [b] ; (a) (b) ; <a <b to <a~<b ; (ours, ours) | (ours,) 0
[a] (b) ; (a) [b] ; <a <b~b> to <a~<b b> ; (ours, theirs) | (odd, odd) 1
(a) (b) ; [a] [b] ; <a~a> <b~b> to <a~<b a>~b> ; (theirs, theirs) | (theirs, theirs) 0
[a] (b) ; [a] (b) ; <a <b~b> to <a~<b b> ; (odd, ring) | (odd,) -1
[a] (b) ; (a) (b) ; <a <b~b> to <a~<b b> ; (ours, ring) | (ours,) -1
(a) (b) ; [a] (b) ; <a~a> <b~b> to <a~<b a>~b> ; (ring, theirs) | (theirs,) -1
[a] (b) ; [a] [b] ; <a <b~b> to <a~<b b> ; (odd, theirs) | (odd, theirs) 0
"""


def read_kinds(text):
    return tuple(word for word in text.strip(" ()").replace(",", " ").split())


def read_choices(text):
    return sorted((read_kinds(choice.rpartition(" ")[0]), int(choice.rpartition(" ")[2]))
                  for choice in text.split(";"))


def table():
    rows = [row.split(" | ") for row in TABLE.strip().split("\n")]
    return {read_kinds(ahead): read_choices(choices) for ahead, choices in rows}


def triples():
    return {(ahead, *choice) for ahead, choices in table().items() for choice in choices}


def kinds_by_words(one, other, deed):
    """Point 15, word by word: both drawings as a whole."""
    told = []
    behind = done(one, deed)
    for some, joints in ((one, deed[0]), (behind, deed[1])):
        parts = samples.parts_by_ties(joints_of(some), joints_of(other))
        told.append(tuple(sorted(part[0] for part in parts if set(part[1]) & set(joints))))
    return (*told, sum_of(drawing(one, other)) - sum_of(drawing(behind, other)))


class MayBe(unittest.TestCase):
    def test_the_table(self):
        self.assertEqual(len(table()), 14)
        self.assertEqual(may_be(("ring",)), [(("ours",), -1), (("ring",), 0), (("ring", "ring"), 1)])
        self.assertEqual(may_be(("theirs",)), [(("odd", "odd"), 1), (("ring", "theirs"), 1), (("theirs",), 0)])
        for ahead, choices in table().items():
            self.assertEqual(may_be(ahead), choices)
            self.assertIsInstance(may_be(ahead), list)

    def test_what_is_none_of_the_tables(self):
        for size in (0, 1, 2, 3, 4):
            for ahead in itertools.product(KINDS, repeat=size):
                if ahead not in table():
                    self.assertEqual(may_be(ahead), [], ahead)
        self.assertEqual(may_be(("open",)), [])

    def test_no_fall_beyond_one(self):
        for size in (1, 2):
            for ahead in itertools.product(KINDS, repeat=size):
                self.assertTrue(all(fall in (-1, 0, 1) for behind, fall in may_be(ahead)))

    def test_the_list_is_the_askers_own(self):
        for ahead in (("odd",), ("ring", "odd")):
            whole = may_be(ahead)
            may_be(ahead).clear()
            may_be(ahead).append(0)
            self.assertEqual(may_be(ahead), whole)


class KindsOf(unittest.TestCase):
    def test_some(self):
        for row in MET.strip().split("\n"):
            one, other, deed, told = row.split(" ; ", 3)
            ahead, behind = told.split(" | ")
            deed = read_row(deed)[0]
            self.assertEqual(kinds_of(read_set(one), read_set(other), deed),
                             (read_kinds(ahead), *read_choices(behind)[0]), row)

    def test_all_small_sets_meet_the_table_and_nothing_else(self):
        met = set()
        for count in (0, 1, 2, 3):
            sets = samples.all_sets(count)
            sums = {pair: sum_of(drawing(*pair)) for pair in itertools.product(sets, repeat=2)}
            behind = samples.all_behind(sets)
            for one, other in itertools.product(sets, repeat=2):
                for deed, some in behind[one]:
                    told = kinds_of(one, other, deed)
                    self.assertEqual(told[2], sums[one, other] - sums[some, other])
                    met.add(told)
        self.assertEqual(met, triples())

    def test_by_both_drawings(self):
        for count in (1, 2):
            for one, other in itertools.product(samples.all_sets(count), repeat=2):
                for deed in deeds_from(one):
                    self.assertEqual(kinds_of(one, other, deed), kinds_by_words(one, other, deed))
        for one, other in itertools.product(samples.all_sets(3)[::11], samples.all_sets(3)[::5]):
            for deed in deeds_from(one):
                self.assertEqual(kinds_of(one, other, deed), kinds_by_words(one, other, deed))

    def test_forty_beads(self):
        for seed in range(4):
            one, other = samples.large_set(seed), samples.large_set(seed + 50)
            for deed in deeds_from(one)[seed::211]:
                told = kinds_of(one, other, deed)
                self.assertEqual(told, kinds_by_words(one, other, deed))
                self.assertIn(told[1:], may_be(told[0]))

    def test_however_the_sets_are_written(self):
        for seed in range(4):
            one, other = samples.large_set(seed, 12), samples.large_set(seed + 50, 12)
            for deed in deeds_from(one)[::17]:
                self.assertEqual(kinds_of(samples.rewritten(one, seed), canon(other), deed), kinds_of(one, other, deed))

    def refused(self, one, other, deed):
        with self.assertRaises(NoDeed) as taken:
            kinds_of(read_set(one), read_set(other), deed)
        self.assertIsNone(taken.exception.at)

    def test_a_deed_that_cannot_be_done(self):
        for one, other, deed in (("[a b]", "[a] [b]", "a> <b to a>~<b"), ("[a] [b]", "[a b]", "a>~<b to a> <b"),
                                 ("", "", "a> <b to a>~<b"), ("[a b]", "(a b)", "<a~<b a>~b> to <a~b> a>~<b"),
                                 ("[a b]", "(a b)", "<a <c to <a~<c"), ("[b a]", "[a b]", "a>~<b to a> <b")):
            self.refused(one, other, read_row(deed)[0])

    def test_what_is_no_deed(self):
        cut = read_row("a>~<b to a> <b")[0]
        for deed in (None, (), 0, "a>~<b to a> <b", ("turn", 0, 1), ("change", 0, 1, 1, 2), [*cut], (cut[0], cut[0]),
                     (cut[0], cut[1][::-1]), (cut[0], list(cut[1])), (((), ())), ((), cut[1]), samples.Stubborn()):
            self.refused("[a b]", "(a b)", deed)

    def test_beads_that_stand_in_one_alone_go_first(self):
        for deed in (None, ("turn", 0, 1), read_row("<x <z to <x~<z")[0], read_row("a>~<b to a> <b")[0]):
            samples.check_lacks(self, lambda one, other: kinds_of(one, other, deed))


if __name__ == "__main__":
    unittest.main()
