import itertools
import unittest

import samples
from samples import KNOT, in_chain, line_by, names
from strandwright.books import BOOKS
from strandwright.errors import BadText, NoName
from strandwright.papers import look, paper
from strandwright.papertexts import read_paper, show_paper
from strandwright.texts import read_line, read_set

A0, A1, B0, B1 = ((name, side) for name in "ab" for side in (0, 1))
CUT, CUT_TEXT = (((A1, B0),), ((A1,), (B0,))), "a>~<b to a> <b"
TURN, TURN_TEXT = ("turn", 0, 2), "turn 0 2"
CHANGE, CHANGE_TEXT = ("change", 0, 1, 1, 2), "change 0 1 1 2"

# Papers and their texts, right ones and others that are of the form.
PAPERS = (
    ("one", (((), ()), 0, ()), "one 0\ncuts\njoins\nrow"),
    ("one", ((((A1, B0),), ()), 1, (CUT,)), f"one 1\ncuts a>~<b\njoins\nrow\n{CUT_TEXT}"),
    ("one", (((), ((A0, A1), (B0, B1))), 12, ()), "one 12\ncuts\njoins <a~a> <b~b>\nrow"),
    ("one", ((((B0,), (A1,), (A1,)), ((A0, B1),)), 9999, (TURN, CUT, CUT)),
     f"one 9999\ncuts <b a> a>\njoins <a~b>\nrow\n{TURN_TEXT}\n{CUT_TEXT}\n{CUT_TEXT}"),
    ("two", ((), 0, ()), "two 0\nrow"),
    ("home", ((), 0, ()), "home 0\nrow"),
    ("two", ((("ring", ((A0, A1),), ((A0, A1),)),), 0, ()), "two 0\nring <a~a> / <a~a>\nrow"),
    ("home", ((("odd", ((A0,),), ((A0,),)), ("theirs", ((A1, B0),), ((A1,), (B0,)))), 1, (CUT,)),
     f"home 1\nodd <a / <a\ntheirs a>~<b / a> <b\nrow\n{CUT_TEXT}"),
    # Whether a part is right, or stands twice, isn't looked at.
    ("two", ((("ours", ((A0,),), ((B1,),)), ("odd", ((A0, B1),), ((A0,),)), ("ours", ((A0,),), ((B1,),))), 7, (CHANGE,)),
     f"two 7\nours <a / b>\nodd <a~b> / <a\nours <a / b>\nrow\n{CHANGE_TEXT}"),
    ("turns", ((((0,),), (), 0), 0, ()), "turns 0\nring 0\nknots\ncover 0\nrow"),
    ("turns", (((), (), 0), 0, ()), "turns 0\nknots\ncover 0\nrow"),
    ("turns", ((((0, 1, 2), (3,)), ((0, 3), (12, 9999)), 10), 3, (TURN, TURN)),
     f"turns 3\nring 0 1 2\nring 3\nknots 0-3 12-9999\ncover 10\nrow\n{TURN_TEXT}\n{TURN_TEXT}"),
    ("turns", ((((5, 2, 2), (5, 2, 2)), ((3, 3), (4, 1)), 9999), 1, (CUT,)),
     f"turns 1\nring 5 2 2\nring 5 2 2\nknots 3-3 4-1\ncover 9999\nrow\n{CUT_TEXT}"),
    ("changes", ((((0,),),), 0, ()), "changes 0\nring 0\nrow"),
    ("changes", (((),), 0, ()), "changes 0\nrow"),
    ("changes", ((((0, 1, 2), (10, 1000)),), 1, (CHANGE,)), f"changes 1\nring 0 1 2\nring 10 1000\nrow\n{CHANGE_TEXT}"),
)

# Rows of these may stand as often as one likes, also not at all, and in any order.
FREE = ("ring", "odd", "ours", "theirs")


class Shown(unittest.TestCase):
    def test_some(self):
        for book, thing, text in PAPERS:
            self.assertEqual(show_paper(book, thing), text)

    def test_told_papers(self):
        self.assertEqual(show_paper("two", paper("two", read_set("[a b]"), read_set("(a) [b]"))),
                         "two 1\nodd <a a>~<b / <a~a> <b\nodd b> / b>\nrow\n<a a>~<b to <a~a> <b")
        self.assertEqual(show_paper("changes", paper("changes", read_line("|b a|"), read_line("|a b|"))),
                         "changes 1\nring 0 1 2\nrow\nchange 0 1 1 2")
        self.assertEqual(show_paper("turns", paper("turns", read_line("|-b -a|"), read_line("|a b|"))),
                         "turns 1\nring 0 2\nring 1\nknots\ncover 0\nrow\nturn 0 2")
        text = show_paper("turns", paper("turns", line_by(in_chain(KNOT, KNOT)), tuple(names(5))))
        self.assertEqual(text.split("\n")[:6], ["turns 6", "ring 0 1 2", "ring 3 4 5", "knots 0-3 3-6", "cover 2", "row"])

    def test_a_book_that_is_none(self):
        self.assertRaises(NoName, show_paper, "three", PAPERS[0][1])


class Read(unittest.TestCase):
    def test_some(self):
        for book, thing, text in PAPERS:
            self.assertEqual(read_paper(text), (book, thing))

    def test_kinds_throughout(self):
        for book, thing, text in PAPERS:
            self.assertEqual(repr(read_paper(text)), repr((book, thing)))

    def test_right_again_behind_its_text(self):
        for book in ("one", "two", "home"):
            kinds = ("open",) if book == "home" else ("open", "ring")
            for seed, count in itertools.product(range(3), (0, 1, 3, 7, 12)):
                one, other = samples.large_set(seed, count, kinds), samples.large_set(seed + 50, count, kinds)
                self.again(book, one, other)
        for seed, count in itertools.product(range(2), (1, 3, 6, 10)):
            self.again("turns", samples.large_line(seed, count, 20), samples.large_line(seed + 50, count, 20))
            self.again("changes", tuple(names(count)), tuple(names(count)[::2] + names(count)[1::2]))
        for book in BOOKS:
            self.again(book, (), ())

    def again(self, book, one, other):
        told = paper(book, one, other)
        text = show_paper(book, told)
        self.assertEqual(read_paper(text), (book, told))
        self.assertEqual(show_paper(*read_paper(text)), text)
        self.assertIs(look(book, one, other, read_paper(text)[1]), True)

    def test_right_again_for_all_of_two_beads(self):
        for one, other in itertools.product(samples.all_sets(2), repeat=2):
            self.again("one", one, other)
            self.again("two", one, other)
        for one, other in itertools.product(samples.all_lines("ab"), repeat=2):
            self.again("turns", one, other)

    def test_deeds_of_any_sort(self):
        for book, thing, text in PAPERS:
            whole = text + "".join(f"\n{row}" for row in (CUT_TEXT, TURN_TEXT, CHANGE_TEXT, "turn 999 0"))
            deeds = thing[2] + (CUT, TURN, CHANGE, ("turn", 999, 0))
            self.assertEqual(read_paper(whole), (book, (thing[0], thing[1], deeds)))


class Bad(unittest.TestCase):
    def bad(self, text):
        with self.assertRaises(BadText, msg=repr(text)):
            read_paper(text)

    def test_no_text(self):
        for thing in samples.NO_TEXTS + (PAPERS[0], PAPERS[0][1], ["two 0", "row"], b"two 0\nrow"):
            self.bad(thing)

    def test_rows_left_out(self):
        for book, thing, text in PAPERS:
            rows = text.split("\n")
            for k in range(rows.index("row") + 1):
                fewer = "\n".join(rows[:k] + rows[k + 1:])
                if rows[k].split(" ")[0] in FREE:
                    read_paper(fewer)
                else:
                    self.bad(fewer)

    def test_rows_that_stand_twice(self):
        for book, thing, text in PAPERS:
            rows = text.split("\n")
            for k in range(rows.index("row") + 1):
                twice = "\n".join(rows[:k + 1] + rows[k:])
                if rows[k].split(" ")[0] in FREE:
                    read_paper(twice)
                else:
                    self.bad(twice)

    def test_rows_in_another_order(self):
        for book, thing, text in PAPERS:
            rows = text.split("\n")
            for one, other in itertools.combinations(range(rows.index("row") + 1), 2):
                changed = list(rows)
                changed[one], changed[other] = changed[other], changed[one]
                if all(rows[k].split(" ")[0] in FREE for k in (one, other)):
                    read_paper("\n".join(changed))
                else:
                    self.bad("\n".join(changed))

    def test_blanks_more_and_fewer(self):
        for book, thing, text in PAPERS:
            for k in [k for k, sign in enumerate(text) if sign == " "]:
                for blank in ("  ", "\t", "\n", "_"):
                    self.bad(text[:k] + blank + text[k + 1:])
                # Between two numbers a blank left out makes another number.
                if not (text[k - 1].isdigit() and text[k + 1].isdigit()):
                    self.bad(text[:k] + text[k + 1:])
            rows = text.split("\n")
            for k in range(len(rows)):
                self.bad("\n".join(rows[:k] + [rows[k] + " "] + rows[k + 1:]))
                self.bad("\n".join(rows[:k] + [" " + rows[k]] + rows[k + 1:]))

    def test_rows_without_signs(self):
        for book, thing, text in PAPERS:
            rows = text.split("\n")
            for k in range(len(rows) + 1):
                self.bad("\n".join(rows[:k] + [""] + rows[k:]))
            self.bad(text.replace("\n", "\r\n"))
        for text in ("", " ", "\n", "row", "two", "two 0", "two 0 row", "row\n", "two\n0\nrow", "0 two\nrow"):
            self.bad(text)

    def test_books_that_are_none(self):
        for head in ("three 0", "One 0", "TWO 0", "turn 0", " 0", "0", "two", "two 0 0", "two two", "two 0 row", "-two 0", "two, 0"):
            self.bad(f"{head}\nrow")

    def test_rows_of_another_book(self):
        for book, other in itertools.product(PAPERS, PAPERS):
            rows = other[2].split("\n")[1:]
            text = "\n".join([book[2].split("\n")[0], *rows])
            no_parts = rows[0] == "row" and book[0] in ("two", "home", "changes")
            if no_parts or book[0] == other[0] or {book[0], other[0]} == {"two", "home"}:
                read_paper(text)
            else:
                self.bad(text)

    def test_numbers_that_are_none(self):
        for number in ("", "00", "01", "0001", "10000", "99999", "00000", "-1", "+1", "1.0", "a", "1a", "\u00b2", "\u0661", "1_0", "0x1",
                       "True", "<a", "1e3", "1,2"):
            for text in (f"two {number}\nrow", f"one {number}\ncuts\njoins\nrow", f"changes 0\nring {number}\nrow",
                         f"changes 0\nring 1 {number}\nrow", f"changes 0\nring {number} 1\nrow", f"turns 0\nring {number}\nknots\ncover 0\nrow",
                         f"turns 0\nknots {number}-1\ncover 0\nrow", f"turns 0\nknots 1-{number}\ncover 0\nrow",
                         f"turns 0\nknots 1-2 1-{number}\ncover 0\nrow", f"turns 0\nknots\ncover {number}\nrow"):
                self.bad(text)
        for number in ("1000", "0001"):
            self.bad(f"turns 0\nknots\ncover 0\nrow\nturn 0 {number}")
            self.bad(f"turns 0\nknots\ncover 0\nrow\nturn {number} 1")

    def test_four_figures(self):
        for number in (0, 7, 10, 999, 1000, 9999):
            text = f"turns {number}\nring {number}\nknots {number}-{number}\ncover {number}\nrow"
            self.assertEqual(read_paper(text), ("turns", ((((number,),), ((number, number),), number), number, ())))

    def test_spans_that_are_none(self):
        for span in ("1", "1-", "-1", "1-2-3", "1--2", "1 - 2", "-", "1-2,", "1~2", "1:2", "1-2-", "(1,2)", "a-b"):
            self.bad(f"turns 0\nknots {span}\ncover 0\nrow")
            self.bad(f"turns 0\nknots 0-1 {span}\ncover 0\nrow")

    def test_joints_that_are_none(self):
        for joint in ("a", "<", ">", "<a>", "a<", ">a", "<A", "<abcdefg", "<b~a>", "a>~a>", "<a~<a", "<a~a>~<b", "<a~", "~a>", "~", "<a~~a>",
                      "a>-<b", "-<a", "<a,", "<1", "0", "<a <", "</"):
            for text in (f"one 0\ncuts {joint}\njoins\nrow", f"one 0\ncuts\njoins {joint}\nrow", f"one 0\ncuts <a {joint}\njoins\nrow",
                         f"two 0\nodd {joint} / <a\nrow", f"two 0\nodd <a / {joint}\nrow", f"home 0\nring <a {joint} / <a\nrow"):
                self.bad(text)

    def test_parts_that_are_none(self):
        for row in ("odd", "odd /", "odd <a", "odd <a /", "odd / <a", "odd <a <a", "odd <a / <a /", "odd <a / / <a", "odd / <a / <a", "/ <a / <a",
                    "even <a / <a", "Odd <a / <a", "odds <a / <a", "<a / <a", "odd <a/ <a", "odd <a /<a", "odd <a | <a", "ring 0", "ring", "their <a / <a",
                    "odd: <a / <a", "cuts", "cover 0", "knots", "odd <a\\<a", "row odd <a / <a", "to <a / <a"):
            for book in ("two", "home"):
                self.bad(f"{book} 0\n{row}\nrow")
                self.bad(f"{book} 0\nodd <a / <a\n{row}\nrow")

    def test_rows_by_one_turns_and_changes_that_are_none(self):
        for text in ("one 0\ncuts\nrow", "one 0\njoins\nrow", "one 0\njoins\ncuts\nrow", "one 0\nrow", "one 0\ncuts\njoins\ncuts\nrow",
                     "one 0\ncut\njoin\nrow", "one 0\nCuts\njoins\nrow", "one 0\ncuts /\njoins\nrow", "one 0\ncuts joins\nrow",
                     "one 0\ncuts\njoins\nring 0\nrow", "one 0\nring 0\ncuts\njoins\nrow", "turns 0\nrow", "turns 0\nknots\nrow",
                     "turns 0\ncover 0\nrow", "turns 0\ncover 0\nknots\nrow", "turns 0\nknots\nring 0\ncover 0\nrow",
                     "turns 0\nknots\ncover 0\nring 0\nrow", "turns 0\nknots\ncover\nrow", "turns 0\nknots\ncover 0 0\nrow",
                     "turns 0\nring\nknots\ncover 0\nrow", "turns 0\nrings 0\nknots\ncover 0\nrow", "turns 0\nknot\ncover 0\nrow",
                     "turns 0\nknots 0 1\ncover 0\nrow", "turns 0\nknots\nknots\ncover 0\nrow", "turns 0\nknots\ncover 0\ncover 0\nrow",
                     "turns 0\nring <a / <a\nknots\ncover 0\nrow", "changes 0\nring\nrow", "changes 0\nknots\nrow", "changes 0\ncover 0\nrow",
                     "changes 0\nknots\ncover 0\nrow", "changes 0\nring 0-1\nrow", "changes 0\nodd 0\nrow", "changes 0\n0\nrow"):
            self.bad(text)

    def test_deeds_that_are_none(self):
        for deed in ("", " ", "row", "none", "to", "turn", "turn 0", "turn 0 1 2", "turn 00 1", "turn 0 1000", "change 0 1 1", "a>~<b", "a>~<b to",
                     "a>~<b to <b a>", "a>~<b to a>~<b", "a> to a>", "two 0", "turn 0 1;turn 0 1", "cuts", "odd <a / <a", "Turn 0 1"):
            for book, thing, text in PAPERS:
                self.bad(text + "\n" + deed)
                self.bad(text + "\n" + deed + "\n" + TURN_TEXT)

    def test_row_written_otherwise(self):
        for book, thing, text in PAPERS:
            for word in ("rows", "Row", "row:", "row 0", "row ", " row", "row turn 0 1", "none", ""):
                self.bad(text.replace("\nrow", "\n" + word))

    def test_semicolons(self):
        for book, thing, text in PAPERS:
            self.bad(text.replace("\n", ";"))
            self.bad(text.replace("\nrow", ";row"))


if __name__ == "__main__":
    unittest.main()
