import itertools
import random
import unittest

import samples
from strandwright.errors import BadText, Twice
from strandwright.texts import read_line, read_set, show_line, show_set

SETS = (
    ((), ""),
    ((("open", ("a",)),), "[a]"),
    ((("ring", ("-a",)),), "(-a)"),
    ((("open", ("a", "-b", "c")),), "[a -b c]"),
    ((("ring", ("-b", "a")), ("open", ("-d",)), ("open", ("abcdef", "-abcdeg"))), "(-b a) [-d] [abcdef -abcdeg]"),
)
LINES = (((), "||"), (("a",), "|a|"), (("-a",), "|-a|"), (("b", "-a", "abcdef"), "|b -a abcdef|"))


def spaces(seed):
    chance = random.Random(seed)
    while True:
        yield "".join(chance.choice(" \n") for _ in range(chance.randint(0, 3)))


def spaced(pieces, gap, between_beads):
    """The pieces with blanks and line feeds wherever such may stand."""
    text = gap()
    for one, other in itertools.pairwise(pieces + [None]):
        text += one + (between_beads() if one[-1].isalpha() and other and other not in list("[]()|") else gap())
    return text


def pieces_of_set(some):
    pieces = []
    for kind, beads in some:
        pieces += ["[" if kind == "open" else "(", *beads, "]" if kind == "open" else ")"]
    return pieces


class Shown(unittest.TestCase):
    def test_sets(self):
        for some, text in SETS:
            self.assertEqual(show_set(some), text)

    def test_lines(self):
        for line, text in LINES:
            self.assertEqual(show_line(line), text)

    def test_strands_and_beads_as_they_stand(self):
        for seed in range(5):
            some = samples.large_set(seed)
            self.assertEqual(read_set(show_set(some)), some)
            line = tuple(bead for kind, beads in some for bead in beads)
            self.assertEqual(read_line(show_line(line)), line)
            self.assertEqual(show_line(line), "|" + " ".join(line) + "|")


class Read(unittest.TestCase):
    def test_as_written(self):
        for some, text in SETS:
            self.assertEqual(read_set(text), some)
        for line, text in LINES:
            self.assertEqual(read_line(text), line)

    def test_blanks_and_line_feeds_where_such_may_stand(self):
        for gap, apart in itertools.product(("", " ", "\n", " \n  \n\n "), (" ", "\n", "\n\n", "   ", " \n ")):
            for some, text in SETS:
                written = spaced(pieces_of_set(some), lambda: gap, lambda: apart)
                self.assertEqual(read_set(written), some, repr(written))
            for line, text in LINES:
                written = spaced(["|", *line, "|"], lambda: gap, lambda: apart)
                self.assertEqual(read_line(written), line, repr(written))

    def test_blanks_by_chance_in_forty_beads(self):
        for seed in range(10):
            gaps = spaces(seed)
            some = samples.large_set(seed)
            written = spaced(pieces_of_set(some), lambda: next(gaps), lambda: next(gaps) + "\n" + next(gaps))
            self.assertEqual(read_set(written), some)

    def test_the_empty_ones(self):
        for text in ("", " ", "\n", " \n\n  "):
            self.assertEqual(read_set(text), ())
        for text in ("||", "| |", " |\n| ", "\n||\n"):
            self.assertEqual(read_line(text), ())

    def test_a_long_text(self):
        self.assertEqual(read_set(" " * 1999 + "[a]" + "\n" * 1998), ((("open", ("a",)),)))
        self.assertEqual(read_line("|" + " " * 3000 + "a" + "\n" * 900 + "|"), ("a",))

    def test_no_set(self):
        for text in ("a", "[]", "()", "[ ]", "[", "]", "(", ")", "[a", "a]", "(a", "a)", "[a)", "(a]", "[[a]]", "[(a)]",
                     "[a [b] c]", "[a]]", "[[a]", "[a] b", "b [a]", "[a]-[b]", "-[a]", "[-]", "[- a]", "[-\na]", "[--a]",
                     "[a-b]", "[a -]", "[a - b]", "[a-]", "[A]", "[aB]", "[abcdefg]", "[-abcdefg]", "[a,b]", "[a;b]",
                     "{a}", "<a>", "[a1]", "[1]", "[a\tb]", "\t", "[a]\t", "[a]\r\n", "[a\x0bb]", "[a\u00a0b]", "[a]\u2003",
                     "[\u00e4]", "[+a]", "|a|", "||", "[a]|", "[a] [] [b]", "[a] () ", "][", "]a[", ")(", "[a]]b[", "%",
                     "[a b", "(a b", "[a b) (c]", "[a](b", "[a", "[a.b]", "[a] , [b]", "[a]\x00"):
            with self.assertRaises(BadText, msg=repr(text)):
                read_set(text)

    def test_no_line(self):
        for text in ("", " ", "|", "a", "a|", "|a", "|||", "||||", "|a||", "||a|", "|a|b|", "|a| |b|", "| - a|", "|-|",
                     "|a-b|", "|--a|", "|-\na|", "[a]", "|[a]|", "(a)", "|(a)|", "||a", "a||", "|A|", "|abcdefg|", "|a\tb|",
                     "|a|\t", "|a,b|", "|a|\r\n", "|1|", "|a\x0cb|", "|a\u00a0b|", "-|a|", "|a|-", "!a!", "|a b", "%"):
            with self.assertRaises(BadText, msg=repr(text)):
                read_line(text)

    def test_no_text(self):
        for thing in samples.NO_TEXTS:
            with self.assertRaises(BadText):
                read_set(thing)
            with self.assertRaises(BadText):
                read_line(thing)

    def test_a_name_at_two_places(self):
        for text, name in (("[a a]", "a"), ("[a -a]", "a"), ("[a] (-a)", "a"), ("[a b c b a]", "b"), ("[a b] [b a]", "b"),
                           ("(z y) [-y] (z)", "y"), ("[a b b a a]", "b"), ("[abcdef] [abcdeg -abcdef]", "abcdef"),
                           ("[aa a aaa] (a)", "a")):
            with self.assertRaises(Twice, msg=text) as taken:
                read_set(text)
            self.assertEqual(taken.exception.name, name)
        for text, name in (("|a a|", "a"), ("|-a b a|", "a"), ("|a b -b a|", "b"), ("|c b a a b c|", "a")):
            with self.assertRaises(Twice, msg=text) as taken:
                read_line(text)
            self.assertEqual(taken.exception.name, name)

    def test_the_form_goes_ahead_of_names(self):
        for text in ("[a a", "[a a] [", "[a] [a] []", "[a a] b", "[a a] [-]", "(a) (a) (abcdefg)"):
            with self.assertRaises(BadText, msg=text):
                read_set(text)
        for text in ("|a a", "|a a| b", "|a a -|", "|a a|a|"):
            with self.assertRaises(BadText, msg=text):
                read_line(text)


if __name__ == "__main__":
    unittest.main()
