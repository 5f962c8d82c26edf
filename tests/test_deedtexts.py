import itertools
import unittest

import samples
from strandwright.deeds import deeds_from, is_deed
from strandwright.deedtexts import read_row, show_deed, show_joint, show_row
from strandwright.errors import BadText
from strandwright.joints import joints_of
from strandwright.texts import read_set

A0, A1, B0, B1 = ((name, side) for name in "ab" for side in (0, 1))
DEEDS = (
    ((((A1, B0),), ((A1,), (B0,))), "a>~<b to a> <b"),
    ((((A1,), (B0,)), ((A1, B0),)), "a> <b to a>~<b"),
    ((((A0, A1),), ((A0,), (A1,))), "<a~a> to <a a>"),
    ((((A0, B0), (A1, B1)), ((A0, B1), (A1, B0))), "<a~<b a>~b> to <a~b> a>~<b"),
    ((((A0,), (A1, B1)), ((A0, B1), (A1,))), "<a a>~b> to <a~b> a>"),
    ((((("to", 0), ("to", 1)),), ((("to", 0),), (("to", 1),))), "<to~to> to <to to>"),
    ((((("change", 1),), (("turn", 0),)), ((("change", 1), ("turn", 0)),)), "change> <turn to change>~<turn"),
    (("turn", 0, 1), "turn 0 1"),
    (("turn", 10, 999), "turn 10 999"),
    (("change", 0, 1, 1, 2), "change 0 1 1 2"),
    (("change", 100, 20, 3, 0), "change 100 20 3 0"),
)


class Shown(unittest.TestCase):
    def test_joints(self):
        for joint, text in (((A0,), "<a"), ((A1,), "a>"), ((A0, A1), "<a~a>"), ((A1, B0), "a>~<b"), ((B0, ("ba", 1)), "<b~ba>"),
                            ((("abcdef", 0), ("to", 0)), "<abcdef~<to")):
            self.assertEqual(show_joint(joint), text)

    def test_deeds(self):
        for deed, text in DEEDS:
            self.assertEqual(show_deed(deed), text)

    def test_rows(self):
        self.assertEqual(show_row([]), "")
        self.assertEqual(show_row([DEEDS[0][0]]), DEEDS[0][1])
        row = [deed for deed, text in DEEDS]
        self.assertEqual(show_row(row), "\n".join(text for deed, text in DEEDS))
        self.assertEqual(row, [deed for deed, text in DEEDS])


class Read(unittest.TestCase):
    def test_as_written(self):
        self.assertEqual(read_row(""), [])
        for deed, text in DEEDS:
            self.assertEqual(read_row(text), [deed])
        for one, other in itertools.product(DEEDS, DEEDS):
            self.assertEqual(read_row(one[1] + "\n" + other[1]), [one[0], other[0]])

    def test_sixty_deeds(self):
        row = [DEEDS[k % len(DEEDS)][0] for k in range(60)]
        self.assertEqual(read_row(show_row(row)), row)

    def test_all_deeds_of_some_sets(self):
        for some in (*samples.all_written(["a", "turn"])[::5], samples.large_set(0), samples.large_set(1)):
            row = deeds_from(some)
            for begin in range(0, len(row), 60):
                self.assertEqual(read_row(show_row(row[begin:begin + 60])), row[begin:begin + 60])

    def test_the_list_is_the_askers_own(self):
        for text in ("", "turn 0 1"):
            first = read_row(text)
            whole = list(first)
            first.append(None)
            self.assertEqual(read_row(text), whole)

    def test_numbers_in_any_order(self):
        for text in ("turn 1 0", "turn 0 0", "turn 999 0", "change 4 3 2 1", "change 0 0 0 0"):
            word, *numbers = text.split(" ")
            self.assertEqual(read_row(text), [(word, *map(int, numbers))])

    def test_numbers_that_are_none(self):
        for number in ("", "00", "01", "007", "000", "1000", "9999", "0000", "-1", "+1", "1.0", "a", "1a", " 1", "\u00b2",
                       "\u0661", "1_0", "0x1", "<a", "True"):
            for text in (f"turn {number} 1", f"turn 0 {number}", f"change 0 1 {number} 2", f"change {number} 1 1 2",
                         f"change 0 1 1 {number}"):
                with self.assertRaises(BadText, msg=text):
                    read_row(text)

    def test_other_counts_of_words(self):
        for text in ("turn", "turn 0", "turn 0 1 2", "turn 0 1 2 3", "change", "change 0 1", "change 0 1 1", "change 0 1 1 2 3",
                     "turn  0 1", "turn 0  1", " turn 0 1", "turn 0 1 ", "turn\n0 1", "turn\t0\t1", "Turn 0 1", "turns 0 1",
                     "turn0 1", "change, 0 1 1 2", "turn 0 1;turn 0 1", "turn 0 1 turn 0 1", "0 1 turn"):
            with self.assertRaises(BadText, msg=text):
                read_row(text)

    def test_rows_without_signs(self):
        for text in ("\n", "\n\n", "turn 0 1\n", "\nturn 0 1", "turn 0 1\n\nturn 0 1", " ", "turn 0 1\n ", "turn 0 1\r\nturn 0 1",
                     "a>~<b to a> <b\n", "\na>~<b to a> <b"):
            with self.assertRaises(BadText, msg=repr(text)):
                read_row(text)

    def test_deeds_written_otherwise(self):
        for text in ("to", " to ", "a>~<b", "a>~<b to", "to a>~<b", "a>~<b to ", " to a>~<b", "a>~<b  to a> <b", "a>~<b to  a> <b",
                     "a>~<b to a>  <b", " a>~<b to a> <b", "a>~<b to a> <b ", "a> ~<b to a> <b", "a>~ <b to a> <b",
                     "a> ~ <b to a> <b", "a>~<b TO a> <b", "a>~<b -> a> <b", "a>~<b a> <b", "a>~<b to to a> <b",
                     "a>~<b to a> to <b", "a>~<b to a> <b to", "a>-<b to a> <b", "a><b to a> <b", "a>~~<b to a> <b",
                     "~a>~<b to a> <b", "a>~<b~ to a> <b", "a>~<b to a>~ <b", "a~<b to a <b", "a>~b to a> b", "<a>~<b to <a> <b",
                     ">a~<b to >a <b", "a<~<b to a< <b", "a>>~<b to a>> <b", "a>~<<b to a> <<b", ">~<b to > <b", "a>~< to a> <",
                     "A>~<b to A> <b", "a>~<bcdefgh to a> <bcdefgh", "-a>~<b to -a> <b", "a1>~<b to a1> <b", "a>~<b\tto a> <b",
                     "a>~<b to a> <b;", "a>~<b to a>,<b", "~ to ~", "< > to <~>", "a>~<b\nto a> <b", "a>~<b to\na> <b"):
            with self.assertRaises(BadText, msg=repr(text)):
                read_row(text)

    def test_deeds_that_have_no_form(self):
        for text in ("<b~a> to a> <b", "a>~<b to <b a>", "<b a> to a>~<b", "a>~b> <a~<b to <a~b> a>~<b", "a>~<b to a>~<b",
                     "a> <b to a> <b", "a> to a>", "<a~<b a>~b> to <a~<b a>~b>", "a>~<b to a> b>", "a>~a> to a> a>",
                     "<a~<b <a~b> to <a~<a <b~b>", "<a~<b a>~b> to <a <b a>~b>", "<a a> <b to <a~a> <b", "<a~a>~<b to <a a>~<b",
                     "<a~a> <b~b> <c~c> to <a~<b a>~<c b>~c>", "<a~<b a>~b> to a>~<b <a~b>", "<a a>~b> to a> <a~b>"):
            with self.assertRaises(BadText, msg=text):
                read_row(text)
            with self.assertRaises(BadText, msg=text):
                read_row("turn 0 1\n" + text + "\nturn 0 1")

    def test_just_the_deeds_of_all_texts_of_some_joints(self):
        joints = sorted({joint for some in samples.all_written(["a", "b"]) for joint in joints_of(some)})
        halves = [half for size in (1, 2) for half in itertools.product(joints, repeat=size)]
        for deed in itertools.islice(itertools.product(halves, halves), 0, None, 3):
            text = " to ".join(" ".join(map(show_joint, half)) for half in deed)
            if is_deed(deed):
                self.assertEqual(read_row(text), [deed])
            else:
                with self.assertRaises(BadText, msg=text):
                    read_row(text)

    def test_no_text(self):
        for thing in samples.NO_TEXTS + (["turn 0 1"], [DEEDS[0][0]], b"turn 0 1", DEEDS[0][0]):
            with self.assertRaises(BadText):
                read_row(thing)

    def test_signs_of_all_sorts(self):
        for sign in [chr(code) for code in range(32, 127)] + ["\u00e4", "\t", "\r", "\x00"]:
            for text in (sign, sign + "turn 0 1", sign + "a>~<b to a> <b", "a>~<b to a> <b" + sign):
                with self.assertRaises(BadText, msg=repr(text)):
                    read_row(text)

    def test_a_set_read_and_its_deeds_written(self):
        self.assertEqual(show_row(deeds_from(read_set("[a b]"))).split("\n"), [
            "<a a>~<b to <a~a> <b", "<a a>~<b to <a~<b a>", "<a b> to <a~b>", "a>~<b to a> <b", "a>~<b b> to a> <b~b>",
            "a>~<b b> to a>~b> <b"])


if __name__ == "__main__":
    unittest.main()
