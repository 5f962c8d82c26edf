import itertools
import unittest

import samples
from strandwright.books import BOOKS, fewest, firsts, row
from strandwright.canon import canon
from strandwright.deedtexts import show_row
from strandwright.desk import Desk
from strandwright.errors import (BadText, Lacks, Mixed, NoDeed, NoKind, NoName, NoRow, NotLet, StrandError, TooMany, Twice)
from strandwright.one import amid_one, rows_one
from strandwright.papers import paper
from strandwright.papertexts import show_paper
from strandwright.plain import amid_two
from strandwright.texts import read_line, read_set, show_line, show_set
from strandwright.two import rows_two

SETS = {"s": "[a b c]", "t": "[a c] [b]", "u": "[c b a]", "r": "(a b) [c]", "x": "[a b]", "e": ""}
LINES = {"l": "|c b a|", "m": "|a b c|", "n": "|-a b c|", "k": "|a b|", "o": "||"}
CUT = "a>~<b to a> <b"
# A row of each sort that is let by the desk below.
ROWS = ("keep z [a]", "keep z ", "fewest two s t", "row one s t", "firsts home s t", "rows one s t", f"do one s {CUT}", "paper turns l m",
        "look changes l m changes 1;ring 0 2;ring 1 3;row;change 0 1 2 3", "amid one s t u", "amid two s t", "show s")


def desk():
    some = Desk()
    for name, text in {**SETS, **LINES}.items():
        assert some.say(f"keep {name} {text}") == "ok"
    return some


def shown(some):
    return [some.say(f"show {name}") for name in [*SETS, *LINES]]


class Case(unittest.TestCase):
    def setUp(self):
        self.desk = desk()

    def said(self, told, *rows):
        for text in rows:
            self.assertEqual(self.desk.say(text), told, text)

    def refused(self, error, *rows, **fields):
        whole = shown(self.desk)
        for text in rows:
            with self.assertRaises(error, msg=repr(text)) as taken:
                self.desk.say(text)
            self.assertIs(taken.exception.__class__, error, repr(text))
            for field, value in fields.items():
                self.assertEqual(getattr(taken.exception, field), value, repr(text))
        self.assertEqual(shown(self.desk), whole)


class Kept(Case):
    def test_sets_as_canons_and_lines_as_they_are(self):
        for text, told in (("[c -b a]", "[-a b -c]"), ("(b a) [-d] [c]", "[c] [d] (a b)"), ("", ""), ("[a]", "[a]"), ("  (  b\n-a )[c]\n", "[c] (a -b)"),
                           ("|c -b a|", "|c -b a|"), ("||", "||"), ("|  |", "||"), ("|\n|\n ", "||"), ("| b  -a|\n", "|b -a|"), ("   ", ""), ("\n", "")):
            self.said("ok", f"keep z {text}")
            self.said(told, "show z")

    def test_names(self):
        for name in ("a", "z", "abcdef", "keep", "show", "two", "amid", "turns"):
            self.said("ok", f"keep {name} [{name}]")
            self.said(f"[{name}]", f"show {name}")

    def test_what_is_kept_comes_in_the_place_of_what_was(self):
        self.said("ok", "keep s [q]", "keep s |q|", "keep s (q)", "keep s (q)")
        self.said("(q)", "show s")
        self.said("ok", "keep s ||")
        self.said("0", "fewest turns s o")
        self.refused(NoKind, "fewest two s s")
        self.said("ok", "keep s ")
        self.said("0", "fewest two s e")
        self.refused(NoKind, "fewest turns s s")

    def test_an_empty_thing_is_what_its_text_told(self):
        self.said("", "show e")
        self.said("||", "show o")
        for book in ("one", "two", "home"):
            self.said("0", f"fewest {book} e e", f"firsts {book} e e")
            self.said("none", f"row {book} e e")
            self.refused(NoKind, f"fewest {book} o o", f"fewest {book} e o", f"fewest {book} o e", f"do {book} o {CUT}")
        for book in ("turns", "changes"):
            self.said("0", f"fewest {book} o o", f"firsts {book} o o")
            self.said("none", f"row {book} o o")
            self.refused(NoKind, f"fewest {book} e e", f"fewest {book} e o", f"fewest {book} o e", f"do {book} e turn 0 1")
        self.refused(NoKind, "amid one o", "amid two o", "amid two e o", "amid one o e e")
        self.said("1", "rows one e e", "rows two e e")
        self.said("", "amid one e", "amid one e e e")
        self.said("0 ", "amid two e", "amid two e e")
        self.said("one 0;cuts;joins;row", "paper one e e")
        self.said("two 0;row", "paper two e e")
        self.said("home 0;row", "paper home e e")
        self.said("turns 0;ring 0;knots;cover 0;row", "paper turns o o")
        self.said("changes 0;ring 0;row", "paper changes o o")
        self.said("right", "look one e e one 0;cuts;joins;row", "look two e e two 0;row", "look home e e home 0;row",
                  "look turns o o turns 0;ring 0;knots;cover 0;row", "look changes o o changes 0;ring 0;row")

    def test_each_desk_keeps_its_own(self):
        other = Desk()
        self.assertRaises(NoName, other.say, "show s")
        other.say("keep s [z]")
        self.said("[a b c]", "show s")
        self.assertEqual(other.say("show s"), "[z]")


class Told(Case):
    def pairs(self):
        for book in ("one", "two"):
            yield from ((book, one, other) for one, other in itertools.product("sturs", repeat=2))
        yield from (("home", one, other) for one, other in itertools.product("stu", repeat=2))
        yield from (("turns", one, other) for one, other in itertools.product("lmn", repeat=2))
        yield from (("changes", one, other) for one, other in itertools.product("lm", repeat=2))

    def thing(self, name):
        return canon(read_set(SETS[name])) if name in SETS else read_line(LINES[name])

    def test_as_the_functions_tell(self):
        for book, one, other in self.pairs():
            first, second = self.thing(one), self.thing(other)
            self.said(str(fewest(book, first, second)), f"fewest {book} {one} {other}")
            self.said(str(len(firsts(book, first, second))), f"firsts {book} {one} {other}")
            self.said(show_row(row(book, first, second)).replace("\n", ";") or "none", f"row {book} {one} {other}")
            text = show_paper(book, paper(book, first, second)).replace("\n", ";")
            self.said(text, f"paper {book} {one} {other}")
            self.said("right", f"look {book} {one} {other} {text}")

    def test_rows(self):
        for one, other in itertools.product("stur", repeat=2):
            self.said(str(rows_one(self.thing(one), self.thing(other))), f"rows one {one} {other}")
        for one, other in itertools.product("st", repeat=2):
            self.said(str(rows_two(self.thing(one), self.thing(other))), f"rows two {one} {other}")
        self.said("ok", "keep y [b a]")
        self.refused(Mixed, "rows two x y", "rows two y x")
        self.said("2", "rows one x y")

    def test_some(self):
        self.said("2", "fewest one s r", "fewest two s u")
        self.said("none", "row one s s", "row changes l l")
        self.said("ok", "keep y [b] [-a]")
        self.said(CUT, "row one x y", "row two x y", "row home x y")
        self.said("1", "firsts one x y", "rows one x y", "rows two x y", "fewest one x y")
        self.said("change 0 1 2 3", "row changes l m")
        self.said("turn 0 1", "row turns n m")
        self.said("one 1;cuts a>~<b;joins;row;" + CUT, "paper one x y")

    def test_amid(self):
        for some in (("s",), ("s", "t", "u"), ("s", "s", "s"), ("s", "t", "u", "r", "s"), ("r", "s", "s", "u", "u", "t", "t")):
            self.said(show_set(amid_one([self.thing(name) for name in some])), "amid one " + " ".join(some))
        for some in (("s",), ("s", "t"), ("s", "t", "u"), ("s", "t", "u", "r"), ("s", "t", "u", "r", "s"), ("r", "r")):
            least, told = amid_two([self.thing(name) for name in some])
            self.said(f"{least} {show_set(told[0])}", "amid two " + " ".join(some))
        self.said("0 [c] (a b)", "amid two r")
        self.said("[c] (a b)", "amid one r")

    def test_forty_beads(self):
        for name, seed in (("big", 0), ("great", 1)):
            self.said("ok", f"keep {name} {show_set(samples.large_set(seed))}")
        one, other = samples.large_set(0), samples.large_set(1)
        self.said(str(fewest("two", one, other)), "fewest two big great")
        self.said(str(rows_one(one, other)), "rows one big great")
        self.said("ok", f"keep big {show_line(samples.large_line(0))}", f"keep great {show_line(samples.large_line(1))}")
        self.said(str(fewest("turns", samples.large_line(0), samples.large_line(1))), "fewest turns big great")

    def test_asked_again_the_same(self):
        for text in ROWS:
            if not text.startswith("do"):
                self.assertEqual(self.desk.say(text), self.desk.say(text))


class Done(Case):
    def test_deeds(self):
        self.said("[a] [b c]", f"do one s {CUT}")
        self.said("[a] [b c]", "show s")
        self.said("[b c] (a)", "do two s <a a> to <a~a>")
        self.said("[a] [b c]", "do home s <a~a> to <a a>")
        self.said("|-a -b -c|", "do turns l turn 0 3")
        self.said("|-c -b -a|", "do changes l change 0 1 2 3")
        self.said("|-c -b -a|", "show l")
        self.said("|a b c|", "show m")

    def test_home_looks_at_no_ring(self):
        self.said("(a b) (c)", "do home r <c c> to <c~c>")
        self.said("[c] (a b)", "do home r <c~c> to <c c>")

    def test_a_row_done_deed_by_deed(self):
        for book, one, other in (("one", "s", "r"), ("two", "s", "u"), ("home", "s", "u"), ("turns", "l", "n"), ("changes", "l", "m")):
            self.desk = desk()
            for deed in self.desk.say(f"row {book} {one} {other}").split(";"):
                last = self.desk.say(f"do {book} {one} {deed}")
            self.assertEqual(last, self.desk.say(f"show {other}"))
            self.said("none", f"row {book} {one} {other}")

    def test_refused(self):
        self.refused(NoDeed, "do one s <a a>~<b to <a~a> <b", "do one s turn 0 1", "do two s change 0 1 1 2", f"do two t {CUT}", f"do home e {CUT}",
                     "do turns l change 0 1 1 2", "do changes l turn 0 1", f"do turns l {CUT}", "do turns l turn 0 4", "do turns l turn 1 1",
                     "do changes l change 0 1 1 4", "do turns o turn 0 1", at=None)
        self.refused(BadText, "do one s ", "do one s  ", f"do one s {CUT}\n{CUT}", f"do one s {CUT};{CUT}", "do one s cut", "do turns l turn 0",
                     "do turns l turn 0 1 2", "do turns l turn 0  1", "do turns l  turn 0 1", "do turns l turn 0 1 ", "do turns l \nturn 0 1",
                     "do turns l turn 0 1\n", "do turns l turn 0 1\nturn 0 1", "do one s none", f"do one s {CUT} ", "do turns l turn 0 01")


class Looked(Case):
    def test_wrong(self):
        parts = "changes 1;ring 0 2;ring 1 3;row"
        self.said("right", f"look changes l m {parts};change 0 1 2 3")
        self.said("wrong parts", "look changes l m changes 1;ring 0 1;ring 2 3;row;change 0 1 2 3", "look changes l m changes 1;row")
        self.said("wrong sum", "look changes l m changes 2;ring 0 2;ring 1 3;row;change 0 1 2 3")
        self.said("wrong row", f"look changes l m {parts}", f"look changes l m {parts};change 0 1 1 2", f"look changes l m {parts};turn 0 3",
                  f"look changes l m {parts};change 0 1 2 3;change 0 1 2 3", f"look changes l m {parts};{CUT}")

    def test_a_paper_of_another_book(self):
        for mine, other in itertools.product(("one", "two", "home"), repeat=2):
            text = self.desk.say(f"paper {other} s t")
            self.said("right" if mine == other else "wrong parts", f"look {mine} s t {text}")
        for mine, other in itertools.product(("turns", "changes"), repeat=2):
            text = self.desk.say(f"paper {other} l m")
            self.said("right" if mine == other else "wrong parts", f"look {mine} l m {text}")
        self.said("wrong parts", "look two e e home 0;row", "look home e e two 0;row", "look one s t turns 0;knots;cover 0;row")

    def test_bad_text(self):
        text = self.desk.say("paper two s t")
        self.refused(BadText, "look two s t ", "look two s t  ", "look two s t two", f"look two s t  {text}", f"look two s t {text} ", f"look two s t {text};",
                     f"look two s t ;{text}", "look two s t right", "look two s t three 0;row", "look two e e two 00;row", "look two e e two 0;;row")

    def test_a_line_feed(self):
        text = self.desk.say("paper two s t")
        self.refused(BadText, "look two s t " + text.replace(";", "\n"), "look two s t " + text.replace(";", "\n", 1), f"look two s t {text}\n",
                     f"look two s t \n{text}", "look two e e two 0\nrow", "look two s t \n")

    def test_as_look_refuses(self):
        text = self.desk.say("paper two s t")
        self.refused(Lacks, f"look two s x {text}", f"look one s x {text}", "look home x s two 0;row", name="c")
        self.refused(NotLet, f"look home s r {text}", f"look home r s {text}", book="home")
        self.refused(NotLet, "look changes l n changes 0;row", "look changes l n turns 0;knots;cover 0;row", book="changes")


class Rows(Case):
    """What is no row."""

    def test_each_row_is_let(self):
        for text in ROWS:
            desk().say(text)

    def test_no_text(self):
        self.refused(NoRow, *samples.NO_TEXTS, ["show", "s"], b"show s")

    def test_words_that_are_none(self):
        self.refused(NoRow, "", " ", "\n", "s", "help", "Keep z [a]", "SHOW s", "shows s", "show\ns", "show\ts", "fewer two s t", "fewest\ntwo s t", "rowone s t",
                     "keep\nz [a]", "done one s t", "looks two s t two 0;row", "papers two s t", "first two s t", "two fewest s t", "s show")

    def test_too_few_and_too_many_words(self):
        for text in ROWS:
            words = text.split(" ")
            ahead = {"keep": 2, "do": 3, "look": 4}.get(words[0], len(words))
            for count in range(1, ahead if words[0] != "amid" else 3):
                self.refused(NoRow, " ".join(words[:count]))
            if words[0] in ("keep", "do", "look"):
                # Without the blank ahead of it there is no text.
                self.refused(NoRow, " ".join(words[:ahead]))
            elif words[0] != "amid":
                self.refused(NoRow, text + " s", text + " s t", text + " none")

    def test_a_word_without_signs(self):
        for text in ROWS:
            words = text.split(" ")
            ahead = {"keep": 2, "do": 3, "look": 4}.get(words[0], len(words))
            for k in range(ahead):
                self.refused(NoRow, " ".join(words[:k] + [""] + words[k:]), " ".join(words[:k] + [""] + words[k + 1:]))
            if ahead == len(words):
                self.refused(NoRow, text + " ", text + "  ")

    def test_books_that_are_none_or_none_for_the_word(self):
        for text in ROWS:
            words = text.split(" ")
            if words[0] not in ("keep", "show"):
                for book in ("three", "One", "s", "turn", "one\n", "\none"):
                    self.refused(NoRow, " ".join([words[0], book, *words[2:]]))
        for book in ("home", "turns", "changes"):
            self.refused(NoRow, f"rows {book} s t", f"rows {book} l m", f"amid {book} s", f"amid {book} l", f"amid {book} s t u")

    def test_counts_of_amid(self):
        self.refused(NoRow, "amid", "amid one", "amid two", "amid one s t", "amid one s t u r", "amid one s s s s s s", "amid two s t u r s t", "amid two" + " s" * 7,
                     "amid s t u", "amid one ", "amid two ")
        self.said("[a b c]", "amid one" + " s" * 7, "amid one" + " s" * 99)
        self.said("0 [a b c]", "amid two" + " s" * 5)


class Names(Case):
    def test_no_names(self):
        for name in ("A", "-s", "s1", "abcdefg", "s\n", "\ns", "[s]", "|", "1", "s,t", "s;"):
            self.refused(NoName, f"keep {name} [a]", f"keep {name} ", f"keep {name} bad", f"show {name}", f"fewest two {name} t", f"fewest two s {name}",
                         f"row one {name} {name}", f"firsts home s {name}", f"rows one {name} z", f"do one {name} {CUT}", f"do one {name} bad",
                         f"paper turns l {name}", f"look two {name} t bad", f"look two s {name} two 0;row", f"amid one {name}", f"amid two s t {name}",
                         f"amid one s {name} z", name=name)

    def test_names_that_are_not_kept(self):
        self.refused(NoName, "show z", "fewest two z t", "fewest two s z", "row one z zz", "firsts home z A", "rows two s z", f"do one z {CUT}", "do one z bad",
                     "paper turns z m", "look two z t bad", "look two s z two 0;row", "amid one z", "amid two s z t A", name="z")

    def test_the_first_from_the_left(self):
        self.refused(NoName, "fewest two A z", "amid one s A z", "look one A z bad", name="A")
        self.refused(NoName, "fewest two z A", "amid one s z A", "look one z A bad", name="z")

    def test_books_words_and_things_are_kept_apart(self):
        self.refused(NoName, "show two", "fewest two two t", name="two")


class Order(Case):
    """Two refusals at once: the first of the order is told."""

    def test_no_row_ahead_of_no_name(self):
        self.refused(NoRow, "fewest three A z", "rows home A B", "show A B", "keep A", "do one A", "look two A B", "amid one A B", "amid two" + " A" * 6)

    def test_no_row_ahead_of_no_kind(self):
        self.refused(NoRow, "rows turns s t", "amid turns s", "fewest none l s", "amid two" + " l" * 6, "amid one l s")

    def test_no_name_ahead_of_no_kind(self):
        self.refused(NoName, "fewest two l z", "fewest two z l", "fewest turns s z", "amid one l s z", "look turns s z bad", "do turns z bad", name="z")

    def test_no_name_ahead_of_reading(self):
        self.refused(NoName, "keep Z [a", "keep Z [a a]", "keep Z |a", name="Z")
        self.refused(NoName, "do one z bad", "look two s z bad", "look two z s \n", name="z")

    def test_no_kind_ahead_of_reading(self):
        self.refused(NoKind, "do one l bad", "do turns s bad", "look two l m bad", "look turns s t bad", "look two s m \n", "look turns l s ")

    def test_no_kind_ahead_of_what_functions_refuse(self):
        self.refused(NoKind, "fewest two s k", "fewest turns x l", "fewest home r l", "fewest changes n s", "amid two s k", "do one l turn 0 9", "paper home r l")

    def test_things_and_books(self):
        for book in BOOKS:
            wrong = "lm" if book in ("one", "two", "home") else "st"
            for word in ("fewest", "row", "firsts", "paper"):
                self.refused(NoKind, f"{word} {book} {wrong[0]} {wrong[1]}", f"{word} {book} s m", f"{word} {book} m s")
            self.refused(NoKind, f"look {book} {wrong[0]} {wrong[1]} two 0;row", f"look {book} s m two 0;row", f"do {book} {wrong[0]} turn 0 1")
        self.refused(NoKind, "rows one l m", "rows two l m", "rows one s m", "rows two l s", "amid one l", "amid two l", "amid one s t l", "amid two l s")

    def test_reading_ahead_of_what_functions_refuse(self):
        self.refused(BadText, "look two s x bad", "look home s r bad", "look changes l n bad", "do one s turn 0 1;turn 0 1", "look home r x \n")

    def test_what_functions_refuse(self):
        for word in ("fewest", "row", "firsts", "paper"):
            self.refused(Lacks, f"{word} two s x", f"{word} one x s", f"{word} home r x", f"{word} turns l k", f"{word} changes k n", name="c")
            self.refused(NotLet, f"{word} home s r", f"{word} home r s", book="home")
            self.refused(NotLet, f"{word} changes l n", f"{word} changes n l", book="changes")
        self.refused(Lacks, "rows one s x", "rows two x r", "amid one s x s", "amid two s x", name="c")
        self.desk.say("keep big [a b c d e]")
        self.desk.say("keep less [a b c d]")
        self.refused(TooMany, "amid two big", "amid two big big")
        self.refused(Lacks, "amid two big less", "amid two less big", name="e")
        self.said("0 [a b c d]", "amid two less")

    def test_keep_as_reading_refuses(self):
        self.refused(BadText, "keep s [a", "keep s |a", "keep s a", "keep s []", "keep s |a b", "keep s  |a|", "keep s [a] |b|", "keep s |a| [b]", "keep s \n||",
                     "keep z [A]", "keep s ok", "keep s |", "keep s [a b]]")
        self.refused(Twice, "keep s [a b -a]", "keep z |a -a|", "keep s (b a) [a b]", name="a")
        self.refused(NoName, "show z", name="z")


class Whole(Case):
    def test_all_refusals_are_of_one_class(self):
        for text in ("", "show z", "fewest two s l", "keep s [", "keep s [a a]", "fewest two s x", "do one s turn 0 1", "amid two big"):
            self.assertRaises(StrandError, self.desk.say, text)

    def test_answers_are_texts(self):
        for text in ROWS:
            self.assertIs(type(desk().say(text)), str)


if __name__ == "__main__":
    unittest.main()
