import itertools
import unittest

import samples
from strandwright.canon import canon
from strandwright.deeds import back, deeds_from, done, is_deed
from strandwright.errors import NoDeed
from strandwright.joints import joints_of
from strandwright.texts import read_set, show_set

A0, A1, B0, B1, C0, C1 = ((name, side) for name in "abc" for side in (0, 1))
CUT = (((A1, B0),), ((A1,), (B0,)))
JOIN = (((A1,), (B0,)), ((A1, B0),))
TWO = (((A0, B0), (A1, B1)), ((A0, B1), (A1, B0)))
THREE = (((A0,), (A1, B1)), ((A0, B1), (A1,)))


def deeds_by_trial(some):
    """All deeds of point 9, tried one by one: some joints gone, their ends matched otherwise."""
    joints = joints_of(some)
    found = []
    for size in (1, 2):
        for gone in itertools.combinations(joints, size):
            ends = tuple(sorted(end for joint in gone for end in joint))
            for come in samples.matchings(ends):
                come = tuple(sorted(come))
                cut = [len(joint) for joint in gone] == [2] and [len(joint) for joint in come] == [1, 1]
                join = [len(joint) for joint in gone] == [1, 1] and [len(joint) for joint in come] == [2]
                sizes = sorted(len(joint) for joint in gone)
                other = (sizes in ([2, 2], [1, 2]) and sorted(len(joint) for joint in come) == sizes and come != gone)
                if cut or join or other:
                    found.append((gone, come))
    return sorted(found)


class IsDeed(unittest.TestCase):
    def test_each_form_and_run_back(self):
        for deed in (CUT, JOIN, TWO, THREE, (((A0, A1),), ((A0,), (A1,))), (((A0,), (A1,)), ((A0, A1),)),
                     (((A0, A1), (B0, B1)), ((A0, B0), (A1, B1))), (((A0, A1), (B0,)), ((A0, B0), (A1,))),
                     (((A0, B0), (C1,)), ((A0,), (B0, C1))), (((("abcdef", 0), ("abcdeg", 1)),),
                                                             ((("abcdef", 0),), (("abcdeg", 1),)))):
            self.assertIs(is_deed(deed), True, deed)
            self.assertIs(is_deed(back(deed)), True, deed)
            self.assertEqual(back(deed), (deed[1], deed[0]))

    def test_other_counts_of_joints_and_ends(self):
        for deed in (((), ()), (((A0,),), ((A0,),)), (((A0, A1),), ((A0, A1),)), (((A0,), (A1,)), ((A0,), (A1,))),
                     (((A0, B0), (A1, B1)), ((A0, B0), (A1,), (B1,))), (((A0, B0), (A1,), (B1,)), ((A0, B0), (A1, B1))),
                     (((A0, B0), (A1, B1)), ((A0, B0), (A1, B1))), (((A0,), (A1, B1)), ((A0,), (A1, B1))),
                     (((A0, B0), (A1, B1), (C0, C1)), ((A0, B1), (A1, C0), (B0, C1))), (((A0, A1, B0),), ((A0,), (A1, B0))),
                     (((A0,), (A1,), (B0,)), ((A0,), (A1, B0))), (((A0, A1), (B0, B1)), ((A0,), (A1,), (B0,), (B1,))),
                     (((A0, A1, B0, B1),), ((A0, A1), (B0, B1))), (((A0,), (A1,)), ((A0,), (A1,))),
                     (((A0, A1),), ((A0,), (A1,), ())), (((A0, A1), ()), ((A0,), (A1,))), (((), (A0, A1)), ((A0,), (A1,)))):
            self.assertIs(is_deed(deed), False, deed)

    def test_not_sorted(self):
        for deed in ((((B0, A1),), ((A1,), (B0,))), (((A1, B0),), ((B0,), (A1,))), (((B0,), (A1,)), ((A1, B0),)),
                     (((A1, B1), (A0, B0)), ((A0, B1), (A1, B0))), (((A0, B0), (A1, B1)), ((A1, B0), (A0, B1))),
                     (((A0, B0), (B1, A1)), ((A0, B1), (A1, B0))), (((A1, B1), (A0,)), ((A0, B1), (A1,)))):
            self.assertIs(is_deed(deed), False, deed)

    def test_an_end_twice_or_other_ends(self):
        for deed in ((((A0, A0),), ((A0,), (A0,))), (((A0,), (A0,)), ((A0, A0),)), (((A1, B0),), ((A1,), (B1,))),
                     (((A0, B0), (A0, B1)), ((A0, B1), (A0, B0))), (((A0, B0), (A0, B1)), ((A0, A0), (B0, B1))),
                     (((A0, B0), (A1, B1)), ((A0, C1), (A1, C0))), (((A0,), (A0, B1)), ((A0, A0), (B1,))),
                     (((A1,), (B0,)), ((A1, C0),)), (((A0, B0), (A1, B1)), ((A0, B1), (A0, B1))),
                     (((A0, B0), (A1, B1)), ((A0, A1), (B0, C0))), (((A0, B0), (A0, B0)), ((A0, A0), (B0, B0)))):
            self.assertIs(is_deed(deed), False, deed)

    def test_truths_and_other_numbers(self):
        for side in (True, False, 2, -1, 1.0, 0.0, "0", "1", None, 10 ** 30, (1,), samples.Stubborn()):
            end = ("b", side)
            for deed in ((((A1, end),), ((A1,), (end,))), (((A1, B0),), ((A1,), (end,))), (((A1,), (end,)), ((A1, end),)),
                         (((A0, end), (A1, B1)), ((A0, B1), (A1, end)))):
                self.assertIs(is_deed(deed), False)

    def test_names_that_are_none(self):
        for name in ("", "-b", "B", "bcdefgh", "b ", "b1", *samples.NO_TEXTS):
            end = (name, 0)
            self.assertIs(is_deed((((A1, end),), ((A1,), (end,)))), False)
            self.assertIs(is_deed((((end, ("z", 1)),), ((end,), (("z", 1),)))), False)

    def test_lists_in_the_place_of_tuples(self):
        for deed in ([*CUT], ([(A1, B0)], ((A1,), (B0,))), (((A1, B0),), [(A1,), (B0,)]), (([A1, B0],), ((A1,), (B0,))),
                     (((A1, B0),), ([A1], (B0,))), (((["a", 1], B0),), ((["a", 1],), (B0,)))):
            self.assertIs(is_deed(deed), False, deed)

    def test_anything(self):
        for thing in samples.NO_TEXTS + ("", "ab", "a>~<b to a> <b", (1, 2), (None, None), ("a", "b"), (CUT,), CUT + CUT,
                                         CUT[:1], CUT + ((),), ((A1, B0), (A1, B0)), (((1, 2),), ((1,), (2,))),
                                         ("turn", 0, 1), ("turn", 0), ("change", 0, 1, 1, 2), (((A1 + (0,), B0),), CUT[1]),
                                         ((((),),), (((),),)), ((samples.Stubborn(),), (samples.Stubborn(),)),
                                         (((A0, B0),) * 100_000, ((A0, B0),) * 100_000), (((A0,) * 100_000,), ((A0,),)),
                                         (samples.Stubborn(), samples.Stubborn()), (((samples.Stubborn(),),),) * 2):
            self.assertIs(is_deed(thing), False)

    def test_just_these_of_all_with_three_ends_or_four(self):
        halves = [tuple(sorted(half)) for size in (1, 2, 3, 4) for ends in itertools.combinations((A0, A1, B0, B1), size)
                  for half in samples.matchings(ends)]
        deeds = {deed for some in samples.all_small() for deed in deeds_by_trial(some)}
        for deed in itertools.product(halves, halves):
            self.assertIs(is_deed(deed), deed in deeds, deed)


class Done(unittest.TestCase):
    def test_each_form(self):
        for ahead, deed, behind in (("[a b]", CUT, "[a] [b]"), ("[b] [a]", JOIN, "[a b]"), ("(-b -a)", CUT, "[-a -b]"),
                                    ("(a)", (((A0, A1),), ((A0,), (A1,))), "[a]"),
                                    ("[-a]", (((A0,), (A1,)), ((A0, A1),)), "(a)"),
                                    ("(a -b)", TWO, "(a b)"), ("[a -b]", THREE, "[-a -b]"),
                                    ("[c] [b a]", (((A0, B1), (C0,)), ((A0, C0), (B1,))), "[-a c] [b]"),
                                    ("(a) (b)", (((A0, A1), (B0, B1)), ((A0, B0), (A1, B1))), "(a -b)")):
            told = done(read_set(ahead), deed)
            self.assertEqual(show_set(told), behind, ahead)
            self.assertEqual(told, canon(told))

    def test_all_deeds_of_all_small_sets_and_back(self):
        for some in samples.all_small():
            joints = set(joints_of(some))
            for deed in deeds_from(some):
                behind = done(some, deed)
                self.assertEqual(set(joints_of(behind)), joints - set(deed[0]) | set(deed[1]))
                self.assertEqual(behind, canon(behind))
                self.assertNotEqual(behind, some)
                self.assertEqual(done(behind, back(deed)), some)

    def refused(self, some, deed):
        with self.assertRaises(NoDeed) as taken:
            done(some, deed)
        self.assertIsNone(taken.exception.at)

    def test_what_cannot_be_done(self):
        for text in ("", "[a] [b]", "[b a]", "[a]", "(a -b)", "[a -b]", "[-a b]", "[c d]", "(a) (b)", "[a c b]"):
            self.refused(read_set(text), CUT)
        for text in ("", "[a b]", "(a b)", "[a c] [b]", "[a] (b)", "[a]", "[c] [d]"):
            self.refused(read_set(text), JOIN)
        for text in ("", "(a b)", "[a -b]", "(a) (b)", "[a] [b]", "(a -b c)", "(c d)"):
            self.refused(read_set(text), TWO)

    def test_just_what_is_told_can_be_done(self):
        small = [some for some in samples.all_small() if len(joints_of(some)) and "c" not in show_set(some)]
        deeds = {deed for some in small for deed in deeds_from(some)}
        for some in small:
            mine = deeds_from(some)
            for deed in sorted(deeds):
                if deed not in mine:
                    self.refused(some, deed)

    def test_other_forms(self):
        some = read_set("[a b] [c]")
        for deed in (None, (), "a>~<b to a> <b", ((), ()), [*CUT], (((A1, B0),), ((B0,), (A1,))), (((B0, A1),), ((A1,), (B0,))),
                     (((A1, B0),), ((A1, B0),)), ((("a", True), B0), ((("a", True),), (B0,))), ("turn", 0, 1),
                     (((("a", True), B0),), ((("a", True),), (B0,))), (((A0,), (B1,), (C0,)), ((A0, B1), (C0,))),
                     samples.Stubborn()):
            self.refused(some, deed)
            with self.assertRaises(NoDeed):
                back(deed)

    def test_nothing_handed_in_is_changed(self):
        some = read_set("(-b a) [d -c]")
        deed = deeds_from(some)[0]
        first = done(some, deed)
        self.assertEqual(done(some, deed), first)
        self.assertEqual(show_set(some), "(-b a) [d -c]")


class DeedsFrom(unittest.TestCase):
    def test_some(self):
        self.assertEqual(deeds_from(()), [])
        self.assertEqual(deeds_from((("open", ("-a",)),)), [(((A0,), (A1,)), ((A0, A1),))])
        self.assertEqual(deeds_from((("ring", ("a",)),)), [(((A0, A1),), ((A0,), (A1,)))])
        self.assertEqual(len(deeds_from(read_set("[a b]"))), 1 + 1 + 2 * 2)

    def test_all_small_sets(self):
        for some in samples.all_small():
            told = deeds_from(some)
            self.assertEqual(told, deeds_by_trial(some))
            self.assertTrue(all(is_deed(deed) for deed in told))

    def test_however_the_set_is_written(self):
        for some in samples.all_written(["a", "b"]):
            self.assertEqual(deeds_from(some), deeds_from(canon(some)))

    def test_forty_beads(self):
        alone = tuple(("open", (name,)) for name in samples.names(40))
        rings = tuple(("ring", (name,)) for name in samples.names(40))
        self.assertEqual(len(deeds_from(alone)), 80 * 79 // 2)
        self.assertEqual(len(deeds_from(rings)), 40 + 40 * 39)
        for seed in range(3):
            some = samples.large_set(seed)
            told = deeds_from(some)
            self.assertEqual(told, deeds_by_trial(some))
            for deed in told[::97]:
                self.assertEqual(done(done(some, deed), back(deed)), canon(some))

    def test_the_list_is_the_askers_own(self):
        some = read_set("[a -b] (c)")
        first = deeds_from(some)
        whole = list(first)
        first.clear()
        self.assertEqual(deeds_from(some), whole)


if __name__ == "__main__":
    unittest.main()
