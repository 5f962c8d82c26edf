"""All that the document's interface names is there, with the arguments told, and keeps to point 2."""

import copy
import importlib
import inspect
import unittest

from strandwright.books import row
from strandwright.deedtexts import read_row
from strandwright.drawing import drawing
from strandwright.joints import joints_of
from strandwright.papers import paper
from strandwright.papertexts import show_paper
from strandwright.texts import read_line, read_set

ONE, OTHER = read_set("[c -b] [-a]"), read_set("[a b c]")
OURS, THEIRS = read_line("|b c a|"), read_line("|a b c|")
CUT = read_row("b>~c> to b> c>")[0]
NUMBERS = [0, 2, 1, 3]
PAPER = paper("two", ONE, OTHER)

# To each module its functions: their arguments, and values for these.
FUNCTIONS = {
    "beads": {"is_name": (("thing",), "ab"), "is_set": (("thing",), ONE), "is_line": (("thing",), OURS), "mirrored": (("bead",), "-a"),
              "turned_about": (("strand",), ONE[0]), "names_in": (("thing",), ONE)},
    "texts": {"read_set": (("text",), "[a]"), "read_line": (("text",), "|a|"), "show_set": (("some",), ONE), "show_line": (("line",), OURS)},
    "joints": {"joints_of": (("some",), ONE), "line_joints": (("line",), OURS), "set_of": (("joints",), joints_of(ONE))},
    "canon": {"canon": (("some",), ONE), "same": (("one", "other"), ONE, OTHER),
              "renamed": (("thing", "names"), ONE, {"a": "-x", "b": "y", "c": "z", "d": "a"})},
    "deeds": {"is_deed": (("thing",), CUT), "done": (("some", "deed"), ONE, CUT), "back": (("deed",), CUT), "deeds_from": (("some",), ONE)},
    "deedtexts": {"show_joint": (("joint",), (("a", 0),)), "show_deed": (("deed",), CUT), "show_row": (("row",), [CUT, ("turn", 0, 1)]),
                  "read_row": (("text",), "turn 0 1\nturn 0 2")},
    "drawing": {"drawing": (("one", "other"), ONE, OTHER), "sum_of": (("parts",), drawing(ONE, OTHER)[::-1])},
    "kinds": {"kinds_of": (("one", "other", "deed"), ONE, OTHER, CUT), "may_be": (("ahead",), ("odd",))},
    "two": {name: (("one", "other"), ONE, OTHER) for name in ("fewest_two", "firsts_two", "row_two", "rows_two")},
    "home": {name: (("one", "other"), ONE, OTHER) for name in ("fewest_home", "firsts_home", "row_home")},
    "one": {"amid_one": (("some",), [ONE, OTHER, ONE]),
            **{name: (("one", "other"), ONE, OTHER) for name in ("fewest_one", "firsts_one", "row_one", "rows_one")}},
    "numbers": {"numbers_of": (("ours", "theirs"), OURS, THEIRS), "point_rings": (("numbers",), NUMBERS)},
    "spans": {"whole_spans": (("numbers",), NUMBERS), "own_points": (("numbers",), NUMBERS)},
    "knots": {"knots_of": (("numbers",), NUMBERS), "cover": (("numbers",), NUMBERS), "sum_of_turns": (("numbers",), NUMBERS)},
    "lines": {"turn": (("line", "i", "j"), OURS, 0, 2), "change": (("line", "i", "j", "k", "l"), OURS, 0, 1, 1, 3),
              "turns_from": (("line",), OURS), "changes_from": (("line",), OURS),
              **{name: (("ours", "theirs"), OURS, THEIRS) for name in ("fewest_turns", "firsts_turns", "row_turns", "fewest_changes",
                                                                       "firsts_changes", "row_changes")}},
    "books": {"fewest": (("book", "one", "other"), "home", ONE, OTHER), "firsts": (("book", "one", "other"), "one", ONE, OTHER),
              "row": (("book", "one", "other"), "changes", OURS, THEIRS), "deeds": (("book", "thing"), "turns", OURS),
              "behind": (("book", "thing", "deed"), "turns", OURS, ("turn", 0, 1)),
              "walk": (("book", "thing", "row"), "two", ONE, row("two", ONE, OTHER))},
    "plain": {"plain_fewest": (("book", "one", "other"), "two", ONE, OTHER), "plain_rows": (("book", "one", "other"), "turns", OURS, THEIRS),
              "all_sets": (("names",), ["b", "a"]), "amid_two": (("some",), [ONE, OTHER])},
    "papers": {"paper": (("book", "one", "other"), "two", ONE, OTHER), "look": (("book", "one", "other", "paper"), "two", ONE, OTHER, PAPER)},
    "papertexts": {"show_paper": (("book", "paper"), "two", PAPER), "read_paper": (("text",), show_paper("two", PAPER))},
}
ERRORS = {"BadText": (), "Twice": ("name",), "Lacks": ("name",), "NoDeed": ("at",), "NotLet": ("book",), "NoName": ("name",), "Mixed": (),
          "TooMany": (), "NoPaper": ("word",), "NoKind": (), "NoRow": ()}


def all_functions():
    for module, functions in FUNCTIONS.items():
        for name, (arguments, *given) in functions.items():
            yield getattr(importlib.import_module(f"strandwright.{module}"), name), arguments, given


def spoil(thing):
    """What a list or dict that was told, or those within it, held is taken out."""
    if isinstance(thing, (list, tuple)):
        for part in thing:
            spoil(part)
    if isinstance(thing, dict):
        for part in thing.values():
            spoil(part)
    if isinstance(thing, (list, dict)):
        thing.clear()


class Interface(unittest.TestCase):
    def test_names_and_arguments(self):
        for function, arguments, given in all_functions():
            self.assertEqual(tuple(inspect.signature(function).parameters), arguments, function)

    def test_classes(self):
        errors = importlib.import_module("strandwright.errors")
        for name, fields in ERRORS.items():
            told = getattr(errors, name)
            self.assertEqual(told.__bases__, (errors.StrandError,))
            self.assertEqual(tuple(inspect.signature(told).parameters), fields)
        desk = importlib.import_module("strandwright.desk").Desk
        self.assertEqual(tuple(inspect.signature(desk).parameters), ())
        self.assertEqual(tuple(inspect.signature(desk().say).parameters), ("row",))

    def test_asked_again_with_the_same_they_tell_the_same(self):
        for function, arguments, given in all_functions():
            self.assertEqual(repr(function(*given)), repr(function(*given)), function)
            self.assertEqual(repr(function(*copy.deepcopy(given))), repr(function(**dict(zip(arguments, given)))), function)

    def test_nothing_handed_in_is_changed_and_what_is_told_is_the_askers_own(self):
        for function, arguments, given in all_functions():
            whole = copy.deepcopy(given)
            told = function(*given)
            self.assertEqual(given, whole, function)
            text = repr(told)
            spoil(told)
            self.assertEqual(given, whole, function)
            self.assertEqual(repr(function(*given)), text, function)


if __name__ == "__main__":
    unittest.main()
