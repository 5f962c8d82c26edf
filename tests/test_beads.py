import unittest

import samples
from strandwright.beads import is_line, is_name, is_set, mirrored, names_in, turned_about


def strand(*beads, kind="open"):
    return (kind, beads)


class Names(unittest.TestCase):
    def test_one_to_six_small_letters(self):
        for name in ("a", "z", "ab", "abcdef", "zzzzzz", "to", "turn", "change", "open", "ring"):
            self.assertIs(is_name(name), True, name)

    def test_other_texts(self):
        for text in ("", "abcdefg", "-a", "a-", "A", "aB", "a b", " a", "a\n", "\n", "a1", "1", "-", "_", "a_b",
                     "\u00e4", "\u00df", "\u0430", "a" * 1_000_000, "`", "{", "\uff41", "a\u0301", "%"):
            self.assertIs(is_name(text), False, text[:9])

    def test_no_texts(self):
        for thing in samples.NO_TEXTS:
            self.assertIs(is_name(thing), False)


class Mirrors(unittest.TestCase):
    def test_a_bead(self):
        self.assertEqual(mirrored("a"), "-a")
        self.assertEqual(mirrored("-a"), "a")
        self.assertEqual(mirrored("abcdef"), "-abcdef")
        self.assertEqual(mirrored("-abcdef"), "abcdef")

    def test_a_strand(self):
        self.assertEqual(turned_about(("open", ("a", "-b", "c"))), ("open", ("-c", "b", "-a")))
        self.assertEqual(turned_about(("ring", ("a", "-b", "c"))), ("ring", ("-c", "b", "-a")))
        self.assertEqual(turned_about(("open", ("a",))), ("open", ("-a",)))
        self.assertEqual(turned_about(("ring", ("-a",))), ("ring", ("a",)))

    def test_twice_mirrored_a_strand_is_as_it_was(self):
        for one in samples.large_set(1):
            self.assertEqual(turned_about(turned_about(one)), one)


class Sets(unittest.TestCase):
    def test_sets(self):
        for some in ((), (strand("a"),), (strand("-a"),), (strand("a", kind="ring"),), (strand("-a", kind="ring"),),
                     (strand("a", "-b"), strand("c", kind="ring")), (strand("b"), strand("a")),
                     (strand("abcdef", "-abcdeg"),)):
            self.assertIs(is_set(some), True, some)

    def test_large_sets(self):
        for seed in range(5):
            self.assertIs(is_set(samples.large_set(seed)), True)
        letters = "abcdefghijklmnopqrstuvwxyz"
        many = tuple(a + b + c for a in letters for b in letters for c in letters)
        self.assertIs(is_set((("ring", many),)), True)
        self.assertIs(is_set((("ring", many + ("aaa",)),)), False)
        self.assertIs(is_set(tuple(("open", ("-" + name,)) for name in many)), True)
        self.assertIs(is_line(many), True)
        self.assertIs(is_line(many + ("-zzz",)), False)

    def test_a_name_at_two_places(self):
        for some in ((strand("a", "a"),), (strand("a", "-a"),), (strand("a"), strand("a")),
                     (strand("a", "b"), strand("c", "-b", kind="ring")), (strand("a"), strand("a", kind="ring"))):
            self.assertIs(is_set(some), False, some)

    def test_lists_in_the_place_of_tuples(self):
        for some in ([], [strand("a")], (["open", ("a",)],), (("open", ["a"]),)):
            self.assertIs(is_set(some), False, some)

    def test_strands_of_another_form(self):
        for some in ((strand(),), (("ring", ()),), (("line", ("a",)),), (("", ("a",)),), (("Open", ("a",)),), ((),),
                     (("open",),), (("open", ("a",), ("b",)),), (("open", "a"),), (("open", "ab"),), (("a",),), ("a",),
                     (None,), ("ab",), (("ring", ("a",)), None), strand("a"), (("open", {"a": 1}),), (("o", "r"),),
                     ((samples.Stubborn(), ("a",)),), (("open", samples.Stubborn()),), (samples.Stubborn(),),
                     ((("open",), ("a",)),), ((True, ("a",)),), ((["open"], ("a",)),)):
            self.assertIs(is_set(some), False)

    def test_beads_of_another_form(self):
        for bead in ("", "-", "--a", "- a", "a-", "A", "abcdefg", "-abcdefg", "a ", "+a", "a1", *samples.NO_TEXTS):
            self.assertIs(is_set((("open", (bead,)),)), False)
            self.assertIs(is_set((("ring", ("a", bead)),)), False)
            self.assertIs(is_line((bead,)), False)
            self.assertIs(is_line(("a", bead)), False)

    def test_no_tuples(self):
        for thing in samples.NO_TEXTS + ("", "a", "[a]", "||"):
            if not isinstance(thing, tuple):
                self.assertIs(is_set(thing), False)
                self.assertIs(is_line(thing), False)


class Lines(unittest.TestCase):
    def test_lines(self):
        for line in ((), ("a",), ("-a",), ("b", "-a", "abcdef"), ("-abcdef",), tuple(samples.names(40))):
            self.assertIs(is_line(line), True, line)

    def test_no_lines(self):
        for line in ([], ["a"], ("a", "a"), ("a", "-a"), ("b", "a", "c", "-a"), (strand("a"),), (("a",),), (["a"],)):
            self.assertIs(is_line(line), False, line)

    def test_without_beads_it_is_both(self):
        self.assertIs(is_set(()), True)
        self.assertIs(is_line(()), True)


class NamesIn(unittest.TestCase):
    def test_of_sets_and_lines(self):
        self.assertEqual(names_in(()), [])
        self.assertEqual(names_in((("ring", ("-c", "b")), ("open", ("-aa", "a")))), ["a", "aa", "b", "c"])
        self.assertEqual(names_in(("-c", "b", "-aa", "a")), ["a", "aa", "b", "c"])
        self.assertEqual(names_in((("ring", ("-z",)),)), ["z"])

    def test_of_forty_beads(self):
        for seed in range(5):
            self.assertEqual(names_in(samples.large_set(seed)), sorted(samples.names(40)))

    def test_the_list_is_the_askers_own(self):
        for thing in ((), ("b", "a"), (("open", ("b", "a")),)):
            first = names_in(thing)
            whole = list(first)
            first.append("zz")
            self.assertEqual(names_in(thing), whole)


if __name__ == "__main__":
    unittest.main()
