import itertools
import random
import unittest

import samples
from samples import FORTRESS, KNOT, in_chain, knot_round, line_by, names
from strandwright.books import BOOKS, deeds, fewest, row, walk
from strandwright.canon import canon
from strandwright.deedtexts import read_row
from strandwright.drawing import drawing
from strandwright.errors import Lacks, NoName, NoPaper, NotLet
from strandwright.joints import joints_of
from strandwright.knots import cover, knots_of
from strandwright.numbers import numbers_of, point_rings
from strandwright.papers import look, paper
from strandwright.texts import read_line, read_set

SET_BOOKS = ("one", "two", "home")
A0, A1, B0, B1 = ((name, side) for name in "ab" for side in (0, 1))


def things(book, seed, count):
    chance = random.Random(seed)
    if book == "turns":
        return samples.large_line(seed, count, 20 * bool(count)), samples.large_line(seed + 50, count, 20 * bool(count))
    if book == "changes":
        beads = [chance.choice(("", "-")) + name for name in names(count)]
        return tuple(chance.sample(beads, count)), tuple(chance.sample(beads, count))
    kinds = ("open",) if book == "home" else ("open", "ring")
    return samples.large_set(seed, count, kinds), samples.large_set(seed + 50, count, kinds)


def parts_by_words(book, one, other):
    """Point 31, word by word."""
    if book == "one":
        ours, theirs = ({joint for joint in joints_of(some) if len(joint) == 2} for some in (one, other))
        return (tuple(sorted(ours - theirs)), tuple(sorted(theirs - ours)))
    if book in ("two", "home"):
        return tuple(drawing(one, other))
    numbers = numbers_of(one, other)
    rings = tuple(tuple(ring) for ring in point_rings(numbers))
    return (rings, tuple(knots_of(numbers)), cover(numbers)) if book == "turns" else (rings,)


def some_pairs():
    for book in BOOKS:
        for seed, count in itertools.product(range(2), (0, 1, 2, 3, 5, 8)):
            yield (book, *things(book, seed, count))


def spoilt(thing):
    """The thing, each time with one part of it, at any depth, told otherwise; none of these is equal in kind to it."""
    if isinstance(thing, tuple):
        yield list(thing)
        yield thing + (thing[-1] if thing else 0,)
        for k in range(len(thing)):
            yield thing[:k] + thing[k + 1:]
            for other in spoilt(thing[k]):
                yield thing[:k] + (other,) + thing[k + 1:]
        if len(thing) > 1 and thing[::-1] != thing:
            yield thing[::-1]
    elif isinstance(thing, int):
        yield thing + 1
        yield -thing - 1
        yield float(thing)
        yield str(thing)
        if thing in (0, 1):
            yield bool(thing)
    else:
        yield thing + "x"
        yield thing.encode()
    yield None
    yield samples.Stubborn()


class Told(unittest.TestCase):
    def test_nothing_at_all(self):
        for book, parts in (("one", ((), ())), ("two", ()), ("home", ()), ("turns", (((0,),), (), 0)), ("changes", (((0,),),))):
            self.assertEqual(paper(book, (), ()), (parts, 0, ()))
            self.assertIs(look(book, (), (), (parts, 0, ())), True)

    def test_some(self):
        one, other = read_set("[a b]"), read_set("(a) [b]")
        cut, join = read_row("a>~<b to a> <b\n<a a> to <a~a>")
        exchange = read_row("<a a>~<b to <a~a> <b")[0]
        self.assertEqual(paper("one", one, other), ((((A1, B0),), ((A0, A1),)), 2, (cut, join)))
        parts = (("odd", ((A0,), (A1, B0)), ((A0, A1), (B0,))), ("odd", ((B1,),), ((B1,),)))
        self.assertEqual(paper("two", one, other), (parts, 1, (exchange,)))
        other = read_set("[a] [b]")
        parts = (("odd", ((A0,),), ((A0,),)), ("odd", ((B1,),), ((B1,),)), ("theirs", ((A1, B0),), ((A1,), (B0,))))
        self.assertEqual(paper("home", one, other), (parts, 1, (cut,)))
        self.assertEqual(paper("changes", ("b", "-a"), ("-a", "b")), ((((0, 1, 2),),), 1, (("change", 0, 1, 1, 2),)))
        parts, told, deeds_told = paper("turns", ("b", "a"), ("a", "b"))
        self.assertEqual((parts, told, len(deeds_told)), ((((0, 1, 2),), ((0, 3),), 1), 3, 3))

    def test_by_words(self):
        for book, one, other in some_pairs():
            parts, told, deeds_told = paper(book, one, other)
            self.assertEqual(parts, parts_by_words(book, one, other))
            self.assertEqual(told, fewest(book, one, other))
            self.assertIsInstance(deeds_told, tuple)
            self.assertEqual(deeds_told, tuple(row(book, one, other)))

    def test_right(self):
        for book, one, other in some_pairs():
            self.assertIs(look(book, one, other, paper(book, one, other)), True)

    def test_right_for_all_small_ones(self):
        for count in (0, 1, 2):
            for book in SET_BOOKS:
                sets = [some for some in samples.all_sets(count) if book != "home" or all(part[0] == "open" for part in some)]
                for one, other in itertools.product(sets, repeat=2):
                    self.assertIs(look(book, one, other, paper(book, one, other)), True)
            lines = list(samples.all_lines(names(count)))
            for one, other in itertools.product(lines, repeat=2):
                self.assertIs(look("turns", one, other, paper("turns", one, other)), True)

    def test_the_greatest(self):
        for book in BOOKS:
            for seed in range(3):
                one, other = things(book, seed, 12 if book in SET_BOOKS else 10)
                told = paper(book, one, other)
                self.assertIs(look(book, one, other, told), True)
                self.assertEqual(told[1], paper(book, other, one)[1])

    def test_knots(self):
        for run in (KNOT, knot_round(KNOT), in_chain(KNOT, KNOT), in_chain((-2, -1), KNOT)):
            ours, theirs = line_by(run), tuple(names(len(run)))
            told = paper("turns", ours, theirs)
            self.assertEqual(told[0], parts_by_words("turns", ours, theirs))
            self.assertIs(look("turns", ours, theirs, told), True)
        ours, theirs = line_by(FORTRESS), tuple(names(len(FORTRESS)))
        with self.assertRaises(NoPaper) as taken:
            look("turns", ours, theirs, (parts_by_words("turns", ours, theirs), 16, ()))
        self.assertEqual(taken.exception.word, "row")
        with self.assertRaises(NoPaper) as taken:
            look("turns", ours, theirs, (parts_by_words("turns", ours, theirs), 15, ()))
        self.assertEqual(taken.exception.word, "sum")

    def test_however_the_sets_are_written(self):
        for book in SET_BOOKS:
            one, other = things(book, 3, 7)
            told = paper(book, one, other)
            self.assertIs(look(book, samples.rewritten(one, 1), samples.rewritten(other, 2), told), True)
            self.assertIs(look(book, canon(one), canon(other), paper(book, samples.rewritten(one, 1), other)), True)

    def test_asked_again_the_same(self):
        for book, one, other in some_pairs():
            self.assertEqual(paper(book, one, other), paper(book, one, other))


class Wrong(unittest.TestCase):
    def wrong(self, word, book, one, other, thing):
        with self.assertRaises(NoPaper, msg=(book, one, other, repr(type(thing)))) as taken:
            look(book, one, other, thing)
        self.assertEqual(taken.exception.word, word)

    def cases(self):
        for book in BOOKS:
            for seed, count in ((0, 0), (1, 1), (2, 3), (3, 4), (4, 5)):
                one, other = things(book, seed, count)
                yield book, one, other, paper(book, one, other)

    def test_no_tuple_of_three(self):
        for book, one, other, told in self.cases():
            for thing in (*samples.NO_TEXTS, "", "parts", list(told), told[:2], told[:1], told + (told[2],), told + ((),), {}, told[0]):
                self.wrong("parts", book, one, other, thing)

    def test_parts_told_otherwise(self):
        for book, one, other, told in self.cases():
            for parts in spoilt(told[0]):
                self.wrong("parts", book, one, other, (parts, told[1], told[2]))
                self.wrong("parts", book, one, other, (parts, None, None))

    def test_sums_told_otherwise(self):
        for book, one, other, told in self.cases():
            for number in (*spoilt(told[1]), told[1] - 1, -told[1] - 1, 10 ** 30, [told[1]], (told[1],), ""):
                self.wrong("sum", book, one, other, (told[0], number, told[2]))
                self.wrong("sum", book, one, other, (told[0], number, None))

    def test_truths_are_no_numbers(self):
        one, other = read_set("(a)"), read_set("[a]")
        for book in ("one", "two"):
            parts, number, deeds_told = paper(book, one, other)
            self.assertEqual(number, 1)
            self.wrong("sum", book, one, other, (parts, True, deeds_told))
            self.wrong("sum", book, one, one, (paper(book, one, one)[0], False, ()))
        gone, come = deeds_told[0]
        self.wrong("row", "two", one, other, (parts, 1, (((((("a", False), A1)),), come),)))
        parts, number, deeds_told = paper("turns", ("-a",), ("a",))
        self.assertEqual((parts, number, deeds_told), ((((0, 1),), (), 0), 1, (("turn", 0, 1),)))
        self.wrong("parts", "turns", ("-a",), ("a",), ((((0, True),), (), 0), 1, deeds_told))
        self.wrong("parts", "turns", ("-a",), ("a",), ((((0, 1),), (), False), 1, deeds_told))
        self.wrong("row", "turns", ("-a",), ("a",), (parts, 1, (("turn", False, 1),)))
        self.wrong("row", "turns", ("-a",), ("a",), (parts, 1, (("turn", 0, True),)))

    def test_rows_told_otherwise(self):
        for book, one, other, told in self.cases():
            for thing in spoilt(told[2]):
                # Read from the end, or with a part told otherwise, it may be another row that is right.
                if not self.is_row(book, one, other, thing, told[1]):
                    self.wrong("row", book, one, other, (told[0], told[1], thing))
            for thing in (list(told[2]), told[2] + (("turn", 0, 1),), None, "", {}, told[1], set(), told[2][:-1] + (None,)):
                if thing != told[2]:
                    self.wrong("row", book, one, other, (told[0], told[1], thing))

    def is_row(self, book, one, other, thing, many):
        if not isinstance(thing, tuple) or len(thing) != many:
            return False
        here = canon(one) if book in SET_BOOKS else one
        for deed in thing:
            if not isinstance(deed, tuple) or repr(deed) not in [repr(let) for let in deeds(book, here)]:
                return False
            here = walk("two" if book == "home" else book, here, [deed])[-1]
        return here == (canon(other) if book in SET_BOOKS else other)

    def test_rows_too_long_and_too_short(self):
        one, other = read_set("[a b]"), read_set("[a] [b]")
        cut, join, again = read_row("a>~<b to a> <b\na> <b to a>~<b\na>~<b to a> <b")
        for book in SET_BOOKS:
            parts = paper(book, one, other)[0]
            self.wrong("row", book, one, other, (parts, 1, (cut, join, again)))
            self.wrong("row", book, one, other, (parts, 1, ()))
            self.wrong("row", book, one, one, (paper(book, one, one)[0], 0, (cut, join)))
        self.wrong("row", "turns", ("a",), ("-a",), (paper("turns", ("a",), ("-a",))[0], 1, (("turn", 0, 1),) * 3))
        self.wrong("row", "turns", ("a",), ("-a",), (paper("turns", ("a",), ("-a",))[0], 1, ()))

    def test_rows_in_another_order(self):
        one, other = read_set("[a b]"), read_set("(a) [b]")
        parts, number, (cut, join) = paper("one", one, other)
        self.wrong("row", "one", one, other, (parts, number, (join, cut)))
        ours, theirs = ("a", "b", "c"), ("-c", "a", "-b")
        parts, number, deeds_told = paper("turns", ours, theirs)
        ends = {order: walk("turns", ours, order)[-1] for order in itertools.permutations(deeds_told)}
        self.assertGreater(len(set(ends.values())), 1)
        for order, end in ends.items():
            if end == theirs:
                self.assertIs(look("turns", ours, theirs, (parts, number, order)), True)
            else:
                self.wrong("row", "turns", ours, theirs, (parts, number, order))

    def test_rows_that_end_elsewhere(self):
        ours, theirs = ("c", "b", "a"), ("a", "b", "c")
        self.wrong("row", "changes", ours, theirs, (paper("changes", ours, theirs)[0], 1, (("change", 0, 1, 1, 2),)))
        ours, theirs = ("b", "a"), ("a", "b")
        self.wrong("row", "turns", ("a",), ("-a",), (paper("turns", ("a",), ("-a",))[0], 1, (("turn", 1, 1),)))
        self.wrong("row", "turns", ours, theirs, (paper("turns", ours, theirs)[0], 3, (("turn", 0, 1),) * 3))
        one, other = read_set("[a b c]"), read_set("[a] [b c]")
        self.wrong("row", "two", one, other, (paper("two", one, other)[0], 1, tuple(read_row("b>~<c to b> <c"))))

    def test_rows_of_another_book(self):
        one, other = read_set("[a b]"), read_set("[b a]")
        exchanges = paper("two", read_set("[a b]"), read_set("(a) [b]"))[2] + tuple(read_row("<a~a> b> to <a~b> a>"))
        self.assertEqual(walk("two", one, exchanges)[-1], canon(other))
        self.assertIs(look("two", one, other, (paper("two", one, other)[0], 2, exchanges)), True)
        self.assertIs(look("home", one, other, (paper("home", one, other)[0], 2, exchanges)), True)
        self.wrong("row", "one", one, other, (paper("one", one, other)[0], 2, exchanges))
        ours, theirs = ("b", "a"), ("a", "b")
        self.wrong("row", "changes", ours, theirs, (paper("changes", ours, theirs)[0], 1, (("turn", 0, 2),)))
        self.wrong("row", "turns", ("-b", "-a"), theirs, (paper("turns", ("-b", "-a"), theirs)[0], 1, (("change", 0, 1, 1, 2),)))
        for deed in (("turn", 0, 2), ("change", 0, 1, 1, 2)):
            self.wrong("row", "one", read_set("[a b]"), read_set("[a] [b]"), (paper("one", read_set("[a b]"), read_set("[a] [b]"))[0], 1, (deed,)))

    def test_by_home_no_two_rings_one_behind_the_other(self):
        one, other = read_set("[a b c d]"), read_set("[b a d c]")
        found = 0
        parts, number, deeds_told = paper("home", one, other)
        self.assertEqual(paper("two", one, other)[:2], (parts, number))
        for order in self.rows(one, other, number):
            rings = [any(strand[0] == "ring" for strand in some) for some in walk("two", one, order)]
            self.assertIs(look("two", one, other, (parts, number, order)), True)
            if any(ahead and after for ahead, after in zip(rings, rings[1:])):
                found += 1
                self.wrong("row", "home", one, other, (parts, number, order))
            else:
                self.assertIs(look("home", one, other, (parts, number, order)), True)
        self.assertGreater(found, 0)

    def rows(self, one, other, number):
        if number == 0:
            yield ()
            return
        for deed in deeds("two", one):
            some = walk("two", one, [deed])[-1]
            if fewest("two", some, other) == number - 1:
                for rest in self.rows(some, other, number - 1):
                    yield (deed, *rest)

    def test_the_first_that_is_not_right(self):
        for book, one, other, told in self.cases():
            self.wrong("parts", book, one, other, (None, None, None))
            self.wrong("sum", book, one, other, (told[0], None, None))
            self.wrong("row", book, one, other, (told[0], told[1], None))

    def test_a_paper_of_other_things_or_another_book(self):
        ours, theirs = ("c", "b", "a"), ("a", "b", "c")
        self.wrong("parts", "turns", ours, theirs, paper("changes", ours, theirs))
        self.wrong("parts", "changes", ours, theirs, paper("turns", ours, theirs))
        one, other = read_set("[a b c]"), read_set("[c a b]")
        self.wrong("parts", "one", one, other, paper("two", one, other))
        self.wrong("parts", "two", one, other, paper("one", one, other))
        self.wrong("parts", "two", one, other, paper("two", other, one))
        self.assertIs(look("home", one, other, paper("home", one, other)), True)

    def test_another_right_one_differs_in_the_row_alone(self):
        one, other = read_set("[a b c]"), read_set("(a) (b) (c)")
        told = paper("two", one, other)
        rows = list(self.rows(one, other, 3))
        self.assertEqual(len(rows), 16)
        for order in rows:
            self.assertIs(look("two", one, other, (told[0], told[1], order)), True)


class Refused(unittest.TestCase):
    def test_the_order(self):
        ring, strand = read_set("(a)"), read_set("[a]")
        asks = (paper, lambda book, one, other: look(book, one, other, None), lambda book, one, other: look(book, one, other, ()))
        for ask in asks:
            for name in ("", "three", "Two", "turn"):
                for one, other in ((ring, strand), (ring, read_set("[b]")), ((), ())):
                    with self.assertRaises(NoName) as taken:
                        ask(name, one, other)
                    self.assertEqual(taken.exception.name, name)
            for book in SET_BOOKS:
                samples.check_lacks(self, lambda one, other: ask(book, one, other), (("[a c]", "[b] (a)", "b"),))
            for book in ("turns", "changes"):
                samples.check_line_lacks(self, lambda one, other: ask(book, one, other))
            self.assertRaises(Lacks, ask, "home", ring, read_set("(b)"))
            for book, one, other in (("home", ring, strand), ("home", strand, ring), ("home", ring, ring),
                                     ("changes", ("a",), ("-a",)), ("changes", read_line("|a -b|"), read_line("|-b -a|"))):
                with self.assertRaises(NotLet) as taken:
                    ask(book, one, other)
                self.assertEqual(taken.exception.book, book)


if __name__ == "__main__":
    unittest.main()
