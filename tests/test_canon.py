import unittest

import samples
from strandwright.beads import is_set
from strandwright.canon import canon, renamed, same


def bare(bead):
    return bead.lstrip("-")


class Canon(unittest.TestCase):
    def check_form(self, told):
        """Point 6, word by word."""
        for kind, beads in told:
            heads = [bare(bead) for bead in beads]
            if kind == "ring":
                self.assertEqual(beads[0], min(heads))
            elif len(beads) == 1:
                self.assertEqual(beads[0], heads[0])
            else:
                self.assertLess(heads[0], heads[-1])
        ranks = [(("open", "ring").index(kind), bare(beads[0])) for kind, beads in told]
        self.assertEqual(ranks, sorted(ranks))

    def test_open_strands(self):
        for beads, told in ((("a",), ("a",)), (("-a",), ("a",)), (("a", "b"), ("a", "b")), (("b", "a"), ("-a", "-b")),
                            (("-a", "-b"), ("-a", "-b")), (("-b", "-a"), ("a", "b")), (("-b", "a"), ("-a", "b")),
                            (("c", "-a", "b"), ("-b", "a", "-c")), (("b", "-a", "c"), ("b", "-a", "c")),
                            (("aa", "b", "a"), ("-a", "-b", "-aa"))):
            self.assertEqual(canon((("open", beads),)), (("open", told),))

    def test_rings(self):
        for beads, told in ((("a",), ("a",)), (("-a",), ("a",)), (("b", "a"), ("a", "b")), (("b", "-a"), ("a", "-b")),
                            (("c", "b", "a"), ("a", "c", "b")), (("-c", "b", "-a"), ("a", "-b", "c")),
                            (("-b", "-a", "-c"), ("a", "b", "c")), (("b", "c", "d"), ("b", "c", "d")),
                            (("b", "-aa", "-a", "c"), ("a", "aa", "-b", "-c"))):
            self.assertEqual(canon((("ring", beads),)), (("ring", told),))

    def test_the_order_of_strands(self):
        some = (("ring", ("d",)), ("open", ("-z", "-y", "-x")), ("ring", ("b", "c")), ("open", ("w",)), ("open", ("e", "f")))
        self.assertEqual(canon(some), (("open", ("e", "f")), ("open", ("w",)), ("open", ("x", "y", "z")),
                                       ("ring", ("b", "c")), ("ring", ("d",))))

    def test_a_turned_first_bead_is_sorted_by_its_name(self):
        some = (("open", ("-m", "n")), ("open", ("a", "b")))
        self.assertEqual(canon(some), (("open", ("a", "b")), ("open", ("-m", "n"))))

    def test_the_empty_set(self):
        self.assertEqual(canon(()), ())
        self.assertIs(same((), ()), True)
        self.assertIs(same((), (("open", ("a",)),)), False)

    def test_all_small_sets(self):
        for count, number in ((1, 2), (2, 10), (3, 76)):
            written = samples.all_written(samples.names(count))
            told = {canon(some) for some in written}
            self.assertEqual(len(told), number)
            for some in written:
                one = canon(some)
                self.assertTrue(is_set(one))
                self.check_form(one)
                self.assertTrue(samples.same_by_matching(some, one))
                self.assertEqual(canon(one), one)

    def test_same_is_strands_matched_one_to_one(self):
        written = samples.all_written(["a", "b"])
        written += samples.all_written(["a"]) + [(("open", ("c", "b")),), ()]
        for one in written:
            for other in written:
                self.assertIs(same(one, other), samples.same_by_matching(one, other), (one, other))

    def test_unlike_sets(self):
        for one, other in (((("open", ("a",)),), (("ring", ("a",)),)), ((("open", ("a", "b")),), (("open", ("b", "a")),)),
                           ((("ring", ("a", "b", "c")),), (("ring", ("a", "c", "b")),)),
                           ((("ring", ("a", "b")),), (("ring", ("a", "-b")),)),
                           ((("open", ("a", "b", "c")),), (("open", ("b", "c", "a")),))):
            self.assertIs(same(one, other), False)

    def test_forty_beads(self):
        for seed in range(20):
            some = samples.large_set(seed)
            told = canon(some)
            self.check_form(told)
            self.assertTrue(samples.same_by_matching(some, told))
            for other in range(5):
                again = samples.rewritten(some, other)
                self.assertEqual(canon(again), told)
                self.assertIs(same(some, again), True)
            self.assertIs(same(some, samples.large_set(seed + 1)), False)

    def test_asked_again_it_tells_the_same(self):
        some = samples.large_set(3)
        self.assertEqual(canon(some), canon(some))
        self.assertEqual(some, samples.large_set(3))


class Renamed(unittest.TestCase):
    def test_a_line(self):
        names = {"a": "x", "b": "-y", "c": "a"}
        self.assertEqual(renamed(("c", "-a", "b"), names), ("a", "-x", "-y"))
        self.assertEqual(renamed(("-b", "a", "-c"), names), ("y", "x", "-a"))
        self.assertEqual(renamed((), names), ())
        self.assertEqual(renamed((), {}), ())

    def test_a_set_stays_in_its_order(self):
        some = (("ring", ("-c", "b")), ("open", ("-a",)), ("open", ("e", "d")))
        names = {"a": "-z", "b": "a", "c": "-b", "d": "c", "e": "-d"}
        self.assertEqual(renamed(some, names), (("ring", ("b", "a")), ("open", ("z",)), ("open", ("-d", "c"))))

    def test_names_may_change_places(self):
        self.assertEqual(renamed(("a", "-b"), {"a": "b", "b": "a"}), ("b", "-a"))
        self.assertEqual(renamed(("a", "-b"), {"a": "-b", "b": "-a"}), ("-b", "a"))

    def test_of_other_names_it_may_have_more(self):
        self.assertEqual(renamed(("-a",), {"zz": "b", "a": "-abcdef", "b": "c"}), ("abcdef",))

    def test_the_dict_stays_as_it_was_and_counts_as_it_is(self):
        names = {"b": "x", "a": "-y"}
        self.assertEqual(renamed((("ring", ("a", "b")),), names), (("ring", ("-y", "x")),))
        self.assertEqual(list(names.items()), [("b", "x"), ("a", "-y")])
        names["a"] = "z"
        self.assertEqual(renamed((("ring", ("a", "b")),), names), (("ring", ("z", "x")),))

    def test_there_and_back_with_forty_beads(self):
        there = {name: "-" + name[::-1] + "q" for name in samples.names(40)}
        home = {told[1:]: "-" + name for name, told in there.items()}
        for seed in range(5):
            some = samples.large_set(seed)
            told = renamed(some, there)
            self.assertEqual([kind for kind, beads in told], [kind for kind, beads in some])
            self.assertEqual(renamed(told, home), some)
            self.assertEqual(canon(renamed(samples.rewritten(some, seed), there)), canon(told))


if __name__ == "__main__":
    unittest.main()
