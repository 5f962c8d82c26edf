import itertools
import random
import unittest

import samples
from samples import names
from strandwright.beads import names_in
from strandwright.books import BOOKS, behind, deeds, fewest
from strandwright.canon import canon
from strandwright.errors import Lacks, Mixed, NoName, NotLet, TooMany
from strandwright.one import rows_one
from strandwright.plain import all_sets, amid_two, plain_fewest, plain_rows
from strandwright.texts import read_line, read_set, show_set
from strandwright.two import fewest_two, rows_two

ASKED = (plain_fewest, plain_rows)
SET_BOOKS = ("one", "two", "home")


def has_ring(some):
    return any(strand[0] == "ring" for strand in some)


def let_by(book, sets):
    return [some for some in sets if not (book == "home" and has_ring(some))]


def behind_by(book, things):
    """From each thing to all pairs of a deed of the book and the thing behind it."""
    found = {thing: [(deed, behind(book, thing, deed)) for deed in deeds(book, thing)] for thing in things}
    if book == "home":
        return {thing: [(deed, other) for deed, other in pairs if not (has_ring(thing) and has_ring(other))]
                for thing, pairs in found.items()}
    return found


def told_rows(book, one, other):
    try:
        return (rows_one if book == "one" else rows_two)(one, other)
    except Mixed:
        return None


def strand_of(count):
    return (("open", tuple(names(count))),) if count else ()


def line_of(count):
    return tuple(names(count))


class AllSets(unittest.TestCase):
    """Each book, for all sets of up to three beads, and some of four."""

    def test_the_same_fewest_as_each_book(self):
        for book in SET_BOOKS:
            for count in (0, 1, 2, 3):
                for one, other in itertools.product(let_by(book, samples.all_sets(count)), repeat=2):
                    self.assertEqual(plain_fewest(book, one, other), fewest(book, one, other))

    def test_the_same_number_of_rows_by_one_and_by_two(self):
        mixed = 0
        for book in ("one", "two"):
            for count in (0, 1, 2, 3):
                for one, other in itertools.product(samples.all_sets(count), repeat=2):
                    told = told_rows(book, one, other)
                    mixed += told is None
                    self.assertIn(told, (None, plain_rows(book, one, other)))
        self.assertGreater(mixed, 0)

    def test_rows_as_another_search_counts_them(self):
        for book in SET_BOOKS:
            for count in (0, 1, 2, 3):
                sets = samples.all_sets(count)
                pairs = behind_by(book, sets)
                for one in let_by(book, sets)[::5]:
                    found = samples.rows_from(one, pairs)
                    for other in let_by(book, sets):
                        self.assertEqual((plain_fewest(book, one, other), plain_rows(book, one, other)), found[other])

    def test_by_home_fewer_rows_than_by_two(self):
        fewer = 0
        for one, other in itertools.product(let_by("home", samples.all_sets(3)), repeat=2):
            by_home, by_two = plain_rows("home", one, other), plain_rows("two", one, other)
            self.assertLessEqual(by_home, by_two)
            fewer += by_home < by_two
        self.assertGreater(fewer, 0)

    def test_some_of_four(self):
        for book in SET_BOOKS:
            sets = let_by(book, samples.all_sets(4))
            for one, other in zip(sets[::29], sets[::-31]):
                self.assertEqual(plain_fewest(book, one, other), fewest(book, one, other))

    def test_however_the_sets_are_written(self):
        for seed in range(8):
            one, other = samples.large_set(seed, 3), samples.large_set(seed + 50, 3)
            for book, ask in itertools.product(("one", "two"), ASKED):
                told = ask(book, canon(one), canon(other))
                self.assertEqual(ask(book, samples.rewritten(one, seed), samples.rewritten(other, seed)), told)


class AllLines(unittest.TestCase):
    def test_by_turns(self):
        for count in (0, 1, 2, 3):
            lines = list(samples.all_lines(names(count)))
            pairs = behind_by("turns", lines)
            for one in lines:
                found = samples.rows_from(one, pairs)
                for other in lines[::1 if count < 3 else 3]:
                    told = plain_fewest("turns", one, other)
                    self.assertEqual(told, fewest("turns", one, other))
                    self.assertEqual((told, plain_rows("turns", one, other)), found[other])

    def test_all_pairs_of_three_by_turns(self):
        for one, other in itertools.product(samples.all_lines("abc"), repeat=2):
            self.assertEqual(plain_fewest("turns", one, other), fewest("turns", one, other))

    def test_some_of_four_by_turns(self):
        lines = list(samples.all_lines("abcd"))
        for one, other in zip(lines[::23], lines[::-19]):
            self.assertEqual(plain_fewest("turns", one, other), fewest("turns", one, other))

    def test_by_changes(self):
        few = [(count, signs) for count in (0, 1, 2, 3) for size in range(count + 1) for signs in itertools.combinations(range(count), size)]
        for count, signs in few + [(4, ()), (4, (0, 2)), (5, ()), (5, (1, 4))]:
            beads = [("-" if k in signs else "") + name for k, name in enumerate(names(count))]
            lines = list(itertools.permutations(beads))
            pairs = behind_by("changes", lines)
            for one in lines[::1 if count < 4 else 20]:
                found = samples.rows_from(one, pairs)
                for other in lines[::1 if count < 5 else 7]:
                    told = (plain_fewest("changes", one, other), plain_rows("changes", one, other))
                    self.assertEqual(told, found[other])
                    self.assertEqual(told[0], fewest("changes", one, other))


class Some(unittest.TestCase):
    def test_nothing_at_all(self):
        for book in BOOKS:
            self.assertEqual((plain_fewest(book, (), ()), plain_rows(book, (), ())), (0, 1))

    def test_some(self):
        for book, one, other, told in (("one", "[a b]", "[b a]", (2, 2)), ("two", "[a b]", "[b a]", (2, 6)), ("one", "(a)", "[-a]", (1, 1)),
                                       ("home", "[a b]", "[b a]", (2, 6)), ("two", "[a] [b] [c]", "(a) (b) (c)", (3, 6)),
                                       ("two", "(a b)", "(b a)", (0, 1))):
            one, other = read_set(one), read_set(other)
            self.assertEqual((plain_fewest(book, one, other), plain_rows(book, one, other)), told, book)
        for book, one, other, told in (("turns", "|a|", "|-a|", (1, 1)), ("turns", "|-b -a|", "|a b|", (1, 1)),
                                       ("changes", "|b a|", "|a b|", (1, 1)), ("turns", "|a -b|", "|a -b|", (0, 1))):
            one, other = read_line(one), read_line(other)
            self.assertEqual((plain_fewest(book, one, other), plain_rows(book, one, other)), told, book)


class Bounds(unittest.TestCase):
    def test_at_them_and_one_beyond(self):
        for book, made, most, most_rows in (("one", strand_of, 4, 3), ("two", strand_of, 4, 3), ("home", strand_of, 4, 3),
                                            ("turns", line_of, 4, 4), ("changes", line_of, 5, 5)):
            for ask, bound in ((plain_fewest, most), (plain_rows, most_rows)):
                for count in range(bound + 1):
                    self.assertEqual(ask(book, made(count), made(count)), int(ask is plain_rows))
                for count in (bound + 1, bound + 2, 12, 40):
                    self.assertRaises(TooMany, ask, book, made(count), made(count))

    def test_by_beads_and_not_by_strands(self):
        self.assertEqual(plain_fewest("two", read_set("(a) (b) (c) (d)"), read_set("[a b c d]")), 4)
        self.assertRaises(TooMany, plain_fewest, "two", read_set("[a b c d e]"), read_set("[a b c d e]"))
        self.assertRaises(TooMany, plain_rows, "one", read_set("[a b] (c d)"), read_set("[a b] (c d)"))


class Refused(unittest.TestCase):
    def refused(self, error, field, value, ask, *given):
        with self.assertRaises(error) as taken:
            ask(*given)
        self.assertEqual(getattr(taken.exception, field), value)

    def test_no_book_goes_first(self):
        five, four = strand_of(5), strand_of(4)
        for ask in ASKED:
            for name in ("", "three", "One", "turn", "one "):
                for one, other in ((five, four), (read_set("(a)"), read_set("[b]")), (five, five), ((), ()), (("a",), ("-a",))):
                    self.refused(NoName, "name", name, ask, name, one, other)

    def test_unlike_beads_go_next(self):
        ring = read_set("(a b c d e f)")
        for ask in ASKED:
            for book in SET_BOOKS:
                samples.check_lacks(self, lambda one, other: ask(book, one, other))
                self.refused(Lacks, "name", "f", ask, book, ring, strand_of(5))
                self.refused(Lacks, "name", "f", ask, book, strand_of(5), ring)
            for book in ("turns", "changes"):
                samples.check_line_lacks(self, lambda one, other: ask(book, one, other))
                self.refused(Lacks, "name", "i", ask, book, line_of(8), ("-a", *line_of(9)[1:]))

    def test_not_let_goes_ahead_of_too_many(self):
        for ask in ASKED:
            for count in (1, 3, 4, 5, 6, 12):
                ring = (("ring", tuple(names(count))),)
                for one, other in ((ring, strand_of(count)), (strand_of(count), ring), (ring, ring)):
                    self.refused(NotLet, "book", "home", ask, "home", one, other)
                turned = ("-a", *line_of(count)[1:])
                for one, other in ((turned, line_of(count)), (line_of(count), turned)):
                    self.refused(NotLet, "book", "changes", ask, "changes", one, other)


class EachSet(unittest.TestCase):
    def test_all_of_them(self):
        for count, told in ((0, 1), (1, 2), (2, 10), (3, 76), (4, 764)):
            sets = all_sets(names(count))
            self.assertEqual(sets, sorted(samples.all_sets(count)))
            self.assertEqual((len(sets), len(set(sets))), (told, told))
            self.assertTrue(all(some == canon(some) and names_in(some) == names(count) for some in sets))

    def test_some(self):
        self.assertEqual(all_sets([]), [()])
        self.assertEqual([show_set(some) for some in all_sets(["q"])], ["[q]", "(q)"])
        self.assertEqual([show_set(some) for some in all_sets(["b", "aa"])], [
            "[-aa -b]", "[-aa b]", "[aa] [b]", "[aa] (b)", "[aa -b]", "[aa b]", "[b] (aa)", "(aa) (b)", "(aa -b)", "(aa b)"])

    def test_all_that_can_be_written(self):
        for some_names in (["a", "b"], ["b", "a", "zz"], ["to", "turn"]):
            self.assertEqual(all_sets(some_names), sorted(set(map(canon, samples.all_written(some_names)))))

    def test_the_list_is_the_askers_own_and_names_are_not_changed(self):
        some_names = ["c", "a", "b"]
        samples.check_own_list(self, all_sets, some_names)
        self.assertEqual(some_names, ["c", "a", "b"])
        some_names.pop()
        self.assertEqual(all_sets(some_names), all_sets(["a", "c"]))


class Amid(unittest.TestCase):
    def by_words(self, some, count):
        sums = {one: sum(fewest_two(one, other) for other in some) for one in samples.all_sets(count)}
        least = min(sums.values())
        return (least, sorted(one for one in sums if sums[one] == least))

    def test_some(self):
        self.assertEqual(amid_two([()]), (0, [()]))
        self.assertEqual(amid_two([()] * 5), (0, [()]))
        self.assertEqual(amid_two([read_set("(b a)")]), (0, [read_set("(a b)")]))
        self.assertEqual(amid_two([read_set("[a]"), read_set("(a)")]), (1, [read_set("[a]"), read_set("(a)")]))
        self.assertEqual(amid_two([read_set("[-a]"), read_set("(a)"), read_set("[a]")]), (1, [read_set("[a]")]))

    def test_all_the_least_and_no_other(self):
        chance = random.Random(30)
        for count, size, tries in ((1, 1, 2), (1, 4, 4), (2, 1, 5), (2, 2, 20), (2, 3, 20), (2, 5, 20), (3, 1, 4), (3, 2, 8), (3, 3, 12),
                                   (3, 4, 8), (3, 5, 8), (4, 1, 1), (4, 2, 1), (4, 3, 2), (4, 5, 2)):
            sets = samples.all_sets(count)
            for turn in range(tries):
                some = [samples.rewritten(chance.choice(sets), turn) for number in range(size)]
                self.assertEqual(amid_two(some), self.by_words(some, count))

    def test_one_alone_is_amid_itself(self):
        for some in samples.all_small():
            self.assertEqual(amid_two([some]), (0, [some]))

    def test_of_two_the_fewest_between_them(self):
        sets = samples.all_sets(3)
        for one, other in zip(sets[::9], sets[::-7]):
            least, told = amid_two([one, other])
            self.assertEqual(least, fewest_two(one, other))
            self.assertIn(one, told)
            self.assertIn(other, told)

    def test_unlike_beads_then_too_many(self):
        for texts, name in ((("[a]", "[a b]"), "b"), (("[b c]", "[b c a]", "[b]"), "a"), (("", "(x)"), "x"), (("[a b c d e]", "[a b c d]"), "e"),
                            (("[a b c d e]", "[a b c d e]", "[a b c d f]"), "e"), (("[a b c d]", "[a b c d]", "[a b c d]", "[b c d]"), "a")):
            for order in (texts, texts[::-1]):
                with self.assertRaises(Lacks) as taken:
                    amid_two([read_set(text) for text in order])
                self.assertEqual(taken.exception.name, name)
        for count in (5, 6, 12, 40):
            for size in (1, 3, 5):
                self.assertRaises(TooMany, amid_two, [strand_of(count)] * size)
        self.assertEqual(amid_two([strand_of(4)] * 5), (0, [strand_of(4)]))

    def test_nothing_handed_in_is_changed(self):
        some = [read_set("[c b] [-a]"), read_set("(a) (b c)")]
        whole = list(some)
        least, told = amid_two(some)
        kept = list(told)
        told.clear()
        self.assertEqual(some, whole)
        self.assertEqual(amid_two(some), (least, kept))


if __name__ == "__main__":
    unittest.main()
