import itertools
import random
import unittest

import samples
from strandwright.beads import turned_about
from strandwright.books import BOOKS, behind, deeds, fewest, firsts, row, walk
from strandwright.canon import canon, renamed
from strandwright.deeds import back, deeds_from, done
from strandwright.deedtexts import read_row
from strandwright.errors import Lacks, NoDeed, NoName, NotLet
from strandwright.home import fewest_home, firsts_home, row_home
from strandwright.lines import (change, changes_from, fewest_changes, fewest_turns, firsts_changes, firsts_turns, row_changes,
                                row_turns, turn, turns_from)
from strandwright.one import fewest_one, firsts_one, row_one
from strandwright.texts import read_line, read_set
from strandwright.two import fewest_two, firsts_two, row_two

OWN = {
    "one": (fewest_one, firsts_one, row_one),
    "two": (fewest_two, firsts_two, row_two),
    "home": (fewest_home, firsts_home, row_home),
    "turns": (fewest_turns, firsts_turns, row_turns),
    "changes": (fewest_changes, firsts_changes, row_changes),
}
SET_BOOKS = ("one", "two", "home")
NO_BOOKS = ("", "One", "ones", "one ", " one", "three", "turn", "change", "a", "set", "line", "onetwo", "one,two", "turns\n")
CUT, JOIN = "a>~<b to a> <b", "<a b> to <a~b>"
EXCHANGES = ("<a a>~<b to <a~a> <b", "a>~<b b> to a>~b> <b")


def deed_of(text):
    return read_row(text)[0]


def things(book, seed, count):
    """Two or three things of so many beads that go together by the book."""
    chance = random.Random(seed)
    if book == "turns":
        return [samples.large_line(seed + more, count, min(60, 60 * count)) for more in (0, 50, 100)]
    if book == "changes":
        beads = [chance.choice(("", "-")) + name for name in samples.names(count)]
        return [tuple(chance.sample(beads, count)) for number in range(3)]
    kinds = ("open",) if book == "home" else ("open", "ring")
    return [samples.large_set(seed + more, count, kinds) for more in (0, 50, 100)]


def kept(book, thing):
    return canon(thing) if book in SET_BOOKS else thing


def has_ring(some):
    return any(strand[0] == "ring" for strand in some)


def from_the_other_end(book, thing):
    return tuple(turned_about(strand) for strand in thing[::-1]) if book in SET_BOOKS else samples.mirror_all(thing)


def way_back(deed):
    if deed[0] == "turn":
        return deed
    if deed[0] == "change":
        word, i, j, k, l = deed
        return (word, i, i + l - k, l - j + i, l)
    return back(deed)


class Asked(unittest.TestCase):
    def test_the_names(self):
        self.assertEqual(BOOKS, ("one", "two", "home", "turns", "changes"))

    def test_as_each_book_tells_by_itself(self):
        for book in BOOKS:
            for seed, count in itertools.product(range(3), (0, 1, 2, 5, 8)):
                one, other, third = things(book, seed, count)
                for ask, own in zip((fewest, firsts, row), OWN[book]):
                    self.assertEqual(ask(book, one, other), own(one, other))

    def test_some(self):
        for book, one, other, told in (("one", "[a b c d]", "[a c b d]", 6), ("two", "[a b c d]", "[a c b d]", 2),
                                       ("home", "[a b c d]", "[a c b d]", 2), ("one", "", "", 0), ("two", "", "", 0), ("home", "", "", 0)):
            self.assertEqual(fewest(book, read_set(one), read_set(other)), told)
        for book, one, other, told in (("turns", "|a b|", "|b a|", 3), ("changes", "|a b|", "|b a|", 1), ("turns", "||", "||", 0),
                                       ("changes", "||", "||", 0)):
            self.assertEqual(fewest(book, read_line(one), read_line(other)), told)


class Deeds(unittest.TestCase):
    def test_of_sets(self):
        for some in [*samples.all_small(), samples.large_set(0), samples.large_set(1)]:
            whole = deeds_from(some)
            self.assertEqual(deeds("two", some), whole)
            self.assertEqual(deeds("home", some), whole)
            self.assertEqual(deeds("one", some), [deed for deed in whole if len(deed[0]) != len(deed[1])])

    def test_of_lines(self):
        for line in ((), ("-a",), ("b", "-a", "c"), tuple(samples.names(12))):
            self.assertEqual(deeds("turns", line), turns_from(line))
            self.assertEqual(deeds("changes", line), changes_from(line))

    def test_lists_are_the_askers_own(self):
        for book in BOOKS:
            one, other, third = things(book, 1, 6)
            samples.check_own_list(self, deeds, book, one)
            for ask in (firsts, row):
                samples.check_own_list(self, ask, book, one, other)
            samples.check_own_list(self, walk, book, one, row(book, one, other))


class Behind(unittest.TestCase):
    def test_sets(self):
        for some in [samples.rewritten(one, 5) for one in samples.all_small()]:
            for book in SET_BOOKS:
                for deed in deeds(book, some):
                    self.assertEqual(behind(book, some, deed), done(some, deed))

    def test_lines(self):
        line = ("b", "-a", "c", "d")
        for deed in turns_from(line):
            self.assertEqual(behind("turns", line, deed), turn(line, *deed[1:]))
        for deed in changes_from(line):
            self.assertEqual(behind("changes", line, deed), change(line, *deed[1:]))

    def test_home_looks_at_no_ring(self):
        some = read_set("(a) (b) [c]")
        self.assertEqual(behind("home", some, deed_of("<b~b> to <b b>")), read_set("[b] [c] (a)"))

    def refused(self, book, thing, deed):
        with self.assertRaises(NoDeed, msg=(book, thing)) as taken:
            behind(book, thing, deed)
        self.assertIsNone(taken.exception.at)

    def test_by_one_cuts_and_joins_alone(self):
        some = read_set("[a b]")
        for text in EXCHANGES:
            self.refused("one", some, deed_of(text))
            behind("two", some, deed_of(text))
            behind("home", some, deed_of(text))
        for text in (CUT, JOIN):
            for book in SET_BOOKS:
                behind(book, some, deed_of(text))

    def test_deeds_of_the_other_sort(self):
        for deed in (("turn", 0, 1), ("change", 0, 1, 1, 2)):
            for book in SET_BOOKS:
                self.refused(book, read_set("[a b]"), deed)
        for text in (CUT, JOIN, *EXCHANGES):
            for book in ("turns", "changes"):
                self.refused(book, ("a", "b"), deed_of(text))
        self.refused("turns", ("a", "b"), ("change", 0, 1, 1, 2))
        self.refused("changes", ("a", "b"), ("turn", 0, 1))

    def test_what_cannot_be_done(self):
        for book in SET_BOOKS:
            for text in ("a>~<c to a> <c", "a> <b to a>~<b", "<a~b> to <a b>"):
                self.refused(book, read_set("[a b]"), deed_of(text))
            self.refused(book, (), deed_of(CUT))
        for numbers in ((0, 0), (1, 0), (-1, 1), (0, 3), (2, 3), (0, 10 ** 30), (-10 ** 30, 1)):
            self.refused("turns", ("a", "b"), ("turn", *numbers))
        for numbers in ((0, 1, 1, 3), (0, 1, 0, 1), (0, 0, 1, 2), (-1, 0, 1, 2), (1, 2, 0, 1), (0, 1, 1, 10 ** 30)):
            self.refused("changes", ("a", "b"), ("change", *numbers))
        self.refused("turns", (), ("turn", 0, 0))
        self.refused("changes", (), ("change", 0, 0, 0, 0))

    def test_things_of_no_form(self):
        cut = deed_of(CUT)
        for deed in (*samples.NO_TEXTS, "", "turn", "turn 0 1", ("turn",), ("turn", 0), ("turn", 0, 1, 2), ("turn", 0, True),
                     ("turn", False, 1), ("turn", "0", 1), ("turn", 0.0, 1), ("turn", None, 1), (samples.Stubborn(), 0, 1), ["turn", 0, 1], ("Turn", 0, 1),
                     ("change", 0, 1), ("change", 0, 1, 1), ("change", 0, 1, True, 2), ("change", False, 1, 1, 2),
                     ("change", 0, 1, 1, 2, 3), ["change", 0, 1, 1, 2], (0, 0, 1), (("turn",), 0, 1), list(cut), (list(cut[0]), cut[1]),
                     (cut[0], cut[1], ()), (cut[0],), ((), ()), (cut[0], cut[0])):
            for book in SET_BOOKS:
                self.refused(book, read_set("[a b]"), deed)
            for book in ("turns", "changes"):
                self.refused(book, ("a", "b"), deed)


class Walk(unittest.TestCase):
    def test_the_first_and_one_behind_each_deed(self):
        for book in BOOKS:
            for seed in range(3):
                one, other, third = things(book, seed, 7)
                told = walk(book, one, row(book, one, other))
                self.assertEqual(told[0], kept(book, one))
                self.assertEqual(told[-1], kept(book, other))
                for deed, ahead, after in zip(row(book, one, other), told, told[1:]):
                    self.assertEqual(after, behind(book, ahead, deed))

    def test_without_deeds(self):
        for book in SET_BOOKS:
            self.assertEqual(walk(book, read_set("[c -b] [-a]"), []), [read_set("[a] [b -c]")])
            self.assertEqual(walk(book, (), []), [()])
        self.assertEqual(walk("two", read_set("(b a)"), []), [read_set("(a b)")])
        for book in ("turns", "changes"):
            self.assertEqual(walk(book, ("b", "-a"), []), [("b", "-a")])
            self.assertEqual(walk(book, (), []), [()])

    def refused(self, book, thing, deeds_told, at):
        with self.assertRaises(NoDeed) as taken:
            walk(book, thing, deeds_told)
        self.assertEqual(taken.exception.at, at)

    def test_refused_at_the_first_a_later_and_no_deed(self):
        some = read_set("[a b]")
        for book in SET_BOOKS:
            whole = read_row(CUT + "\na> <b to a>~<b\n" + CUT)
            self.assertEqual(walk(book, some, whole), [some, read_set("[a] [b]")] * 2)
            for at in range(4):
                self.refused(book, some, whole[:at] + [("turn", 0, 1)] + whole[at:], at)
                self.refused(book, some, whole[:at] + [None] + whole[at:], at)
                self.refused(book, some, whole[:at] + [deed_of("<c~c> to <c c>")], at)
            self.refused(book, some, whole[:1] * 3, 1)
        for at in range(3):
            self.refused("one", some, read_row(CUT + "\na> <b to a>~<b")[:at] + [deed_of(EXCHANGES[0])], at)
        for book, deed, other in (("turns", ("turn", 0, 2), ("change", 0, 1, 1, 2)), ("changes", ("change", 0, 1, 1, 2), ("turn", 0, 1))):
            self.assertEqual(len(walk(book, ("a", "b"), [deed] * 5)), 6)
            for at in range(4):
                self.refused(book, ("a", "b"), [deed] * at + [other, deed], at)
                self.refused(book, ("a", "b"), [deed] * at + [deed[:-1] + (3,)], at)
                self.refused(book, ("a", "b"), [deed] * at + [deed[:-1]], at)

    def test_the_first_of_two_that_cannot_be_done(self):
        self.refused("turns", ("a", "b"), [("turn", 0, 1), ("turn", 1, 1), ("turn", 2, 1)], 1)

    def test_home_over_two_rings(self):
        some = read_set("[a b c]")
        make = read_row("a>~<b b>~<c to a>~<c <b~b>")
        self.assertEqual(walk("home", some, make), [some, read_set("[a c] (b)")])
        # The ring stays; another one is made; it goes, and it comes once more.
        stays = read_row("<a c> to <a~c>")
        self.refused("home", some, make + stays, 1)
        self.refused("home", some, make + read_row("a>~<c c> to a> <c~c>"), 1)
        opened = read_row("<b~b> to <b b>")
        self.assertEqual(walk("home", some, make + opened)[-1], read_set("[a c] [b]"))
        again = make + opened + read_row("<b b> to <b~b>")
        self.assertEqual(walk("home", some, again)[-1], read_set("[a c] (b)"))
        self.refused("home", some, again + stays, 3)
        for book in ("one", "two"):
            self.assertEqual(walk(book, read_set("[a] [b]"), read_row("<a a> to <a~a>\n<b b> to <b~b>"))[-1], read_set("(a) (b)"))
        self.refused("home", read_set("[a] [b]"), read_row("<a a> to <a~a>\n<b b> to <b~b>"), 1)

    def test_home_begun_with_a_ring(self):
        for text in ("(a)", "[b] (a)", "(c) (b) (a)"):
            for deeds_told in ([], read_row("<a~a> to <a a>"), [None], [("turn", 0, 1)]):
                with self.assertRaises(NotLet) as taken:
                    walk("home", read_set(text), deeds_told)
                self.assertEqual(taken.exception.book, "home")
        self.assertEqual(walk("two", read_set("(a)"), read_row("<a~a> to <a a>")), [read_set("(a)"), read_set("[a]")])

    def test_sixty_deeds(self):
        some = read_set("[a b]")
        told = walk("one", some, read_row(CUT + "\na> <b to a>~<b") * 30)
        self.assertEqual((len(told), told[-1]), (61, some))

    def test_a_row_as_a_tuple(self):
        self.assertEqual(walk("turns", ("a",), (("turn", 0, 1),)), [("a",), ("-a",)])

    def test_nothing_handed_in_is_changed(self):
        deeds_told = [("turn", 0, 2), ("turn", 0, 1)]
        walk("turns", ("a", "b"), deeds_told)
        self.assertEqual(deeds_told, [("turn", 0, 2), ("turn", 0, 1)])


class Refused(unittest.TestCase):
    def no_name(self, name, ask, *given):
        with self.assertRaises(NoName) as taken:
            ask(name, *given)
        self.assertEqual(taken.exception.name, name)

    def test_no_book_goes_first(self):
        for name in NO_BOOKS:
            for one, other in (("[a]", "[a]"), ("[a]", "[b]"), ("(a)", "[a]"), ("", "")):
                for ask in (fewest, firsts, row):
                    self.no_name(name, ask, read_set(one), read_set(other))
                self.no_name(name, deeds, read_set(one))
                for deed in (deed_of(CUT), ("turn", 0, 1), None):
                    self.no_name(name, behind, read_set(one), deed)
                    self.no_name(name, walk, read_set(one), [deed])
                self.no_name(name, walk, read_set(one), [])
            for ask in (fewest, firsts, row):
                self.no_name(name, ask, ("a",), ("-a",))
                self.no_name(name, ask, ("a",), ("b",))

    def test_unlike_beads_go_next(self):
        for ask in (fewest, firsts, row):
            for book in SET_BOOKS:
                samples.check_lacks(self, lambda one, other: ask(book, one, other), (("[a c]", "[b] (a)", "b"),))
            for book in ("turns", "changes"):
                samples.check_line_lacks(self, lambda one, other: ask(book, one, other))

    def test_not_let(self):
        for ask in (fewest, firsts, row):
            for book, one, other in (("home", read_set("(a) [b]"), read_set("[a b]")), ("changes", ("a", "-b"), ("b", "a"))):
                for first, second in ((one, other), (other, one)):
                    with self.assertRaises(NotLet) as taken:
                        ask(book, first, second)
                    self.assertEqual(taken.exception.book, book)
            self.assertRaises(Lacks, ask, "home", read_set("(a)"), read_set("(b)"))
            self.assertRaises(Lacks, ask, "changes", ("a", "b"), ("-a", "c"))


class Promise(unittest.TestCase):
    """Point 3, and 29, for each book."""

    def test_rows_and_rows_run_back(self):
        for book in BOOKS:
            for seed, count in ((0, 4), (1, 7), (2, 10)):
                one, other, third = things(book, seed, count)
                told = row(book, one, other)
                self.assertEqual(len(told), fewest(book, one, other))
                self.assertEqual(walk(book, one, told)[-1], kept(book, other))
                run_back = walk(book, other, [way_back(deed) for deed in told[::-1]])
                self.assertEqual(run_back, walk(book, one, told)[::-1])

    def test_rows_of_sets_of_twelve(self):
        for book in SET_BOOKS:
            one, other, third = things(book, 5, 12)
            told = row(book, one, other)
            self.assertEqual((len(told), walk(book, one, told)[-1]), (fewest(book, one, other), canon(other)))

    def test_first_deeds_are_those_by_which_the_sum_falls(self):
        for book in BOOKS:
            for seed, count in ((0, 4), (1, 6)):
                one, other, third = things(book, seed, count)
                here = fewest(book, one, other)
                # By home a set behind a deed may have a ring; its sum is that by two.
                ask = "two" if book == "home" else book
                falls = {deed: here - fewest(ask, behind(book, one, deed), other) for deed in deeds(book, one)}
                self.assertLessEqual(max(falls.values()), 1)
                self.assertEqual(firsts(book, one, other), [deed for deed in deeds(book, one) if falls[deed] == 1])

    def test_nought_just_where_both_are_the_same(self):
        for book in BOOKS:
            one, other, third = things(book, 3, 8)
            self.assertEqual([ask(book, one, one) for ask in (fewest, firsts, row)], [0, [], []])
            self.assertGreater(fewest(book, one, other), 0)
            if book in SET_BOOKS:
                self.assertEqual(fewest(book, one, samples.rewritten(one, 1)), 0)

    def test_the_same_sum(self):
        for book in BOOKS:
            for seed in range(4):
                one, other, third = things(book, seed, 40)
                told = fewest(book, one, other)
                self.assertEqual(fewest(book, one, other), told)
                self.assertEqual(fewest(book, other, one), told)
                self.assertEqual(fewest(book, from_the_other_end(book, one), from_the_other_end(book, other)), told)
                renames = dict(zip(samples.names(40), ["-" + name for name in samples.names(40)[::-1]]))
                self.assertEqual(fewest(book, renamed(one, renames), renamed(other, renames)), told)
                self.assertLessEqual(fewest(book, one, third), told + fewest(book, other, third))

    def test_a_row_parted_anywhere(self):
        for book in BOOKS:
            for seed in range(3):
                one, other, third = things(book, seed, 6)
                self.parted(book, walk(book, one, row(book, one, other)), True)
                self.parted(book, walk(book, one, row(book, one, other) + row(book, other, third)), False)

    def parted(self, book, told, least):
        whole = fewest(book, told[0], told[-1])
        for place, thing in enumerate(told):
            if book == "home" and has_ring(thing):
                continue
            parts = [fewest(book, told[0], thing), fewest(book, thing, told[-1])]
            self.assertGreaterEqual(sum(parts), whole)
            if least:
                self.assertEqual(parts, [place, len(told) - 1 - place])


if __name__ == "__main__":
    unittest.main()
