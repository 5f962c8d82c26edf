import itertools
import random
import unittest

import samples
from samples import FORTRESS, NEAR_FORTRESS, line_by, mirror_all, names
from strandwright.beads import is_line
from strandwright.canon import renamed
from strandwright.errors import NoDeed, NotLet
from strandwright.lines import (change, changes_from, fewest_changes, fewest_turns, firsts_changes, firsts_turns, row_changes,
                                row_turns, turn, turns_from)
from strandwright.numbers import numbers_of, point_rings
from strandwright.texts import read_line, show_line

GREAT = 10 ** 40
TURNS = (turns_from, turn, fewest_turns, firsts_turns, row_turns)
CHANGES = (changes_from, change, fewest_changes, firsts_changes, row_changes)


def behind(line, deed):
    return {"turn": turn, "change": change}[deed[0]](line, *deed[1:])


def back(deed):
    """Point 24, word by word."""
    if deed[0] == "turn":
        return deed
    word, i, j, k, l = deed
    return (word, i, i + l - k, l - j + i, l)


def line_behind(line, row):
    for deed in row:
        line = behind(line, deed)
    return line


def unturned_lines(some_names, signs=None):
    """All orders of the names, each bead of the same side throughout."""
    beads = [("-" if signs and k in signs else "") + name for k, name in enumerate(some_names)]
    return list(itertools.permutations(beads))


def shuffled(seed, count, turned=()):
    beads = [("-" if k in turned else "") + name for k, name in enumerate(names(count))]
    random.Random(seed).shuffle(beads)
    return tuple(beads)


def all_distances(lines, deeds_from):
    pairs = {line: [(deed, behind(line, deed)) for deed in deeds_from(line)] for line in lines}
    return pairs, lambda line: samples.rows_from(line, pairs)


class Turn(unittest.TestCase):
    def test_some(self):
        for line, i, j, told in (("|a|", 0, 1, "|-a|"), ("|a -b c|", 0, 3, "|-c b -a|"), ("|a -b c|", 1, 2, "|a b c|"),
                                 ("|a -b c d|", 1, 3, "|a -c b d|"), ("|a b|", 0, 1, "|-a b|"), ("|a b|", 1, 2, "|a -b|")):
            self.assertEqual(show_line(turn(read_line(line), i, j)), told)

    def test_refused(self):
        for line in ((), ("a",), ("a", "-b", "c"), tuple(names(40))):
            most = len(line)
            for i, j in ((0, 0), (1, 0), (-1, 1), (-1, 0), (0, -1), (-2, -1), (0, most + 1), (most, most), (most, most + 1),
                         (most + 1, most + 2), (0, GREAT), (-GREAT, 1), (-GREAT, GREAT), (GREAT, GREAT), (GREAT, GREAT + 1), (1, 1)):
                with self.assertRaises(NoDeed) as taken:
                    turn(line, i, j)
                self.assertIsNone(taken.exception.at)

    def test_just_the_numbers_that_fit(self):
        line = ("a", "-b", "c")
        for i, j in itertools.product(range(-5, 6), repeat=2):
            if 0 <= i < j <= 3:
                told = turn(line, i, j)
                self.assertEqual(told, line[:i] + mirror_all(line[i:j]) + line[j:])
                self.assertEqual(turn(told, i, j), line)
            else:
                self.assertRaises(NoDeed, turn, line, i, j)


class Change(unittest.TestCase):
    def test_some(self):
        for line, numbers, told in (("|a b|", (0, 1, 1, 2), "|b a|"), ("|a -b c|", (0, 1, 2, 3), "|c -b a|"),
                                    ("|a b c d|", (0, 2, 2, 4), "|c d a b|"), ("|a b c d|", (0, 1, 2, 4), "|c d b a|"),
                                    ("|a b c d e|", (1, 2, 3, 4), "|a d c b e|"), ("|a b -c d|", (1, 3, 3, 4), "|a d b -c|")):
            self.assertEqual(show_line(change(read_line(line), *numbers)), told)

    def test_refused(self):
        for line in ((), ("a",), ("a", "-b", "c"), tuple(names(40))):
            most = len(line)
            for numbers in ((0, 0, 0, 0), (0, 0, 0, 1), (0, 1, 1, 1), (0, 1, 0, 1), (0, 2, 1, 3), (1, 0, 1, 2), (0, 1, 2, 1),
                            (1, 2, 0, 1), (-1, 1, 1, 2), (-1, 0, 1, 2), (-3, -2, -2, -1), (0, 1, 1, most + 1), (0, 1, most, most + 1),
                            (most, most + 1, most + 1, most + 2), (0, 1, 1, GREAT), (-GREAT, 1, 1, 2), (GREAT, GREAT, GREAT, GREAT),
                            (0, 1, GREAT, GREAT + 1), (0, -1, -1, 1), (1, 1, 1, 1), (0, GREAT, 1, 2)):
                with self.assertRaises(NoDeed, msg=(line, numbers)) as taken:
                    change(line, *numbers)
                self.assertIsNone(taken.exception.at)

    def test_just_the_numbers_that_fit(self):
        line = ("a", "-b", "c", "d")
        for i, j, k, l in itertools.product(range(-1, 6), repeat=4):
            if 0 <= i < j <= k < l <= 4:
                told = change(line, i, j, k, l)
                self.assertEqual(told, line[:i] + line[k:l] + line[j:k] + line[i:j] + line[l:])
                self.assertEqual(change(told, i, i + l - k, l - j + i, l), line)
            else:
                self.assertRaises(NoDeed, change, line, i, j, k, l)


class From(unittest.TestCase):
    def test_few_beads(self):
        self.assertEqual(turns_from(()), [])
        self.assertEqual(changes_from(()), [])
        self.assertEqual(turns_from(("-a",)), [("turn", 0, 1)])
        self.assertEqual(changes_from(("-a",)), [])
        self.assertEqual(turns_from(("b", "-a")), [("turn", 0, 1), ("turn", 0, 2), ("turn", 1, 2)])
        self.assertEqual(changes_from(("b", "-a")), [("change", 0, 1, 1, 2)])

    def test_all_that_can_be_done_sorted(self):
        for count in range(7):
            line = tuple(names(count))
            places = range(count + 1)
            self.assertEqual(turns_from(line), [("turn", *pair) for pair in itertools.combinations(places, 2)])
            told = [("change", i, j, k, l) for i, j, k, l in itertools.product(places, repeat=4) if i < j <= k < l]
            self.assertEqual(changes_from(line), sorted(told))

    def test_forty_beads(self):
        line = tuple(names(40))
        self.assertEqual(len(turns_from(line)), 820)
        told = changes_from(line)
        self.assertEqual((len(told), len(set(told))), (101270 + 10660, 101270 + 10660))
        self.assertEqual(told, sorted(told))

    def test_the_way_back_of_each(self):
        for line in (("a", "-b", "c", "d", "-e"), tuple(names(9))):
            for deed in turns_from(line) + changes_from(line):
                other = behind(line, deed)
                self.assertTrue(is_line(other))
                self.assertNotEqual(other, line)
                self.assertIn(back(deed), turns_from(other) + changes_from(other))
                self.assertEqual(behind(other, back(deed)), line)
                self.assertEqual(back(back(deed)), deed)

    def test_lists_are_the_askers_own(self):
        for asked in (turns_from, changes_from):
            samples.check_own_list(self, asked, ("a", "b", "c"))


class AllByTurns(unittest.TestCase):
    """Against a plain search over all turns, for all lines of up to four beads."""

    def test_to_the_line_of_all_names_in_order(self):
        for count in (0, 1, 2, 3, 4):
            theirs = tuple(names(count))
            pairs, search = all_distances(list(samples.all_lines(theirs)), turns_from)
            # A row run back is a row, so as many deeds are needed from the second to the first.
            found = search(theirs)
            self.assertEqual(len(found), len(pairs))
            for ours in pairs:
                fewest = found[ours][0]
                self.assertEqual((fewest_turns(ours, theirs), fewest_turns(theirs, ours)), (fewest, fewest))
                self.assertEqual(firsts_turns(ours, theirs),
                                 sorted(deed for deed, line in pairs[ours] if found[line][0] == fewest - 1))
                self.assertTrue(all(found[line][0] >= fewest - 1 for deed, line in pairs[ours]))
                row = row_turns(ours, theirs)
                self.assertEqual((len(row), line_behind(ours, row)), (fewest, theirs))

    def test_between_any_two_of_up_to_three(self):
        for count in (0, 1, 2, 3):
            lines = list(samples.all_lines(names(count)))
            pairs, search = all_distances(lines, turns_from)
            for ours in lines:
                found = search(ours)
                for theirs in lines:
                    self.assertEqual(fewest_turns(ours, theirs), found[theirs][0])


class AllByChanges(unittest.TestCase):
    """Against a plain search over all changes, for all lines of up to five beads."""

    def test_to_each_line(self):
        for count, signs in ((0, ()), (1, ()), (1, (0,)), (2, (1,)), (3, (0, 2)), (4, ()), (5, ()), (5, (1, 2, 4))):
            lines = unturned_lines(names(count), signs)
            pairs, search = all_distances(lines, changes_from)
            for theirs in lines[::max(1, len(lines) // 6)]:
                found = search(theirs)
                self.assertEqual(len(found), len(lines))
                for ours in lines:
                    fewest = found[ours][0]
                    self.assertEqual((fewest_changes(ours, theirs), fewest_changes(theirs, ours)), (fewest, fewest))

    def test_first_deeds_and_rows(self):
        for count, signs in ((0, ()), (1, (0,)), (2, ()), (3, (1,)), (4, ()), (5, (0, 4))):
            lines = unturned_lines(names(count), signs)
            pairs, search = all_distances(lines, changes_from)
            theirs = lines[-1]
            found = search(theirs)
            for ours in lines:
                fewest = found[ours][0]
                self.assertEqual(firsts_changes(ours, theirs),
                                 sorted(deed for deed, line in pairs[ours] if found[line][0] == fewest - 1))
                row = row_changes(ours, theirs)
                self.assertEqual((len(row), line_behind(ours, row)), (fewest, theirs))

    def test_no_change_saves_more_than_two(self):
        for ours in unturned_lines(names(5)):
            theirs = tuple(names(5))
            here = 6 - len(point_rings(numbers_of(ours, theirs)))
            self.assertEqual(here % 2, 0)
            self.assertEqual(here // 2, fewest_changes(ours, theirs))
            for deed in changes_from(ours):
                there = 6 - len(point_rings(numbers_of(behind(ours, deed), theirs)))
                self.assertIn(there - here, (-2, 0, 2))


class Some(unittest.TestCase):
    def test_turns(self):
        for ours, theirs, told in (("||", "||", 0), ("|a|", "|-a|", 1), ("|-a|", "|-a|", 0), ("|a b|", "|b a|", 3),
                                   ("|a b|", "|-b -a|", 1), ("|b -a|", "|a b|", 2), ("|a b c|", "|c b a|", 3),
                                   ("|-a -b|", "|a b|", 2), ("|c -a b|", "|a b c|", 3)):
            self.assertEqual(fewest_turns(read_line(ours), read_line(theirs)), told, (ours, theirs))

    def test_changes(self):
        for ours, theirs, told in (("||", "||", 0), ("|-a|", "|-a|", 0), ("|a b|", "|b a|", 1), ("|a b c|", "|c b a|", 1),
                                   ("|a -b c d|", "|d c -b a|", 2), ("|a b c d|", "|c d a b|", 1), ("|a b c d e|", "|e d c b a|", 2),
                                   ("|a b c d e|", "|b a d c e|", 2)):
            self.assertEqual(fewest_changes(read_line(ours), read_line(theirs)), told, (ours, theirs))

    def test_a_line_and_itself(self):
        for line in ((), ("a",), ("-a",), ("b", "-a", "c"), shuffled(1, 10, (2, 3))):
            for tools in (TURNS, CHANGES):
                self.assertEqual([ask(line, line) for ask in tools[2:]], [0, [], []])
        line = shuffled(1, 40, (5,))
        self.assertEqual((fewest_turns(line, line), fewest_changes(line, line)), (0, 0))

    def test_first_deeds(self):
        self.assertEqual(firsts_turns(("-a",), ("a",)), [("turn", 0, 1)])
        self.assertEqual(firsts_turns(("-b", "-a"), ("a", "b")), [("turn", 0, 2)])
        self.assertEqual(firsts_changes(("b", "a"), ("a", "b")), [("change", 0, 1, 1, 2)])
        self.assertEqual(firsts_turns(("b", "a"), ("a", "b")), turns_from(("a", "b")))


class Ten(unittest.TestCase):
    def pairs(self):
        for seed in range(6):
            yield TURNS, samples.large_line(seed, 10), samples.large_line(seed + 50, 10)
        for run in samples.knotty_runs(8, 4, 10):
            yield TURNS, line_by(run), tuple(names(len(run)))
        for seed in range(6):
            yield CHANGES, shuffled(seed, 10, (seed, 7)), shuffled(seed + 50, 10, (seed, 7))

    def test_rows(self):
        for (deeds_from, do, fewest, firsts, row), ours, theirs in self.pairs():
            told = row(ours, theirs)
            self.assertEqual(len(told), fewest(ours, theirs))
            self.assertTrue(all(deed in deeds_from(ours) for deed in told))
            self.assertEqual(line_behind(ours, told), theirs)
            self.assertEqual(line_behind(theirs, [back(deed) for deed in told[::-1]]), ours)
            if told:
                samples.check_own_list(self, row, ours, theirs)

    def test_first_deeds(self):
        for (deeds_from, do, fewest, firsts, row), ours, theirs in self.pairs():
            here = fewest(ours, theirs)
            told = firsts(ours, theirs)
            self.assertEqual(told, [deed for deed in deeds_from(ours) if fewest(behind(ours, deed), theirs) == here - 1])
            self.assertEqual(told == [], ours == theirs)
            if told:
                samples.check_own_list(self, firsts, ours, theirs)


class Forty(unittest.TestCase):
    def test_a_turn_or_change_saves_one_at_the_most(self):
        for seed in range(2):
            ours, theirs = samples.large_line(seed), samples.large_line(seed + 50)
            here = fewest_turns(ours, theirs)
            for deed in turns_from(ours)[seed::7]:
                self.assertLessEqual(abs(fewest_turns(behind(ours, deed), theirs) - here), 1)
            ours, theirs = shuffled(seed, 40), shuffled(seed + 50, 40)
            here = fewest_changes(ours, theirs)
            for deed in changes_from(ours)[seed::997]:
                self.assertLessEqual(abs(fewest_changes(behind(ours, deed), theirs) - here), 1)

    def test_lines_with_knots(self):
        for run in (FORTRESS, NEAR_FORTRESS, *samples.knotty_runs(12, 5, 20)):
            ours, theirs = line_by(run), tuple(names(len(run)))
            if ours == theirs:
                continue
            here = fewest_turns(ours, theirs)
            there = [fewest_turns(behind(ours, deed), theirs) for deed in turns_from(ours)]
            self.assertEqual(min(there), here - 1, run)
            self.assertLessEqual(max(there), here + 1)

    def test_few_turns_are_met_again(self):
        for count in range(6):
            line = samples.large_line(count, turns=count)
            self.assertLessEqual(fewest_turns(line, tuple(names(40))), count)
        self.assertEqual(fewest_turns(mirror_all(names(40)), tuple(names(40))), 1)
        self.assertEqual(fewest_turns(tuple(names(40)[::-1]), tuple(names(40))), 41)
        self.assertEqual(fewest_changes(tuple(names(40)[::-1]), tuple(names(40))), 20)
        self.assertEqual(fewest_changes(tuple(names(40)[20:] + names(40)[:20]), tuple(names(40))), 1)

    def lines(self):
        for seed in range(4):
            yield fewest_turns, [samples.large_line(seed + more) for more in (0, 50, 100)]
            yield fewest_changes, [shuffled(seed + more, 40, (seed, 9)) for more in (0, 50, 100)]

    def test_the_other_way_round_and_over_a_third(self):
        for fewest, (one, other, third) in self.lines():
            self.assertEqual(fewest(one, other), fewest(other, one))
            self.assertLessEqual(fewest(one, third), fewest(one, other) + fewest(other, third))

    def test_read_from_the_other_end_and_renamed(self):
        renames = dict(zip(names(40), ["-" + name for name in names(40)[::-1]]))
        for fewest, (one, other, third) in self.lines():
            self.assertEqual(fewest(mirror_all(one), mirror_all(other)), fewest(one, other))
            self.assertEqual(fewest(renamed(one, renames), renamed(other, renames)), fewest(one, other))


class Refused(unittest.TestCase):
    def test_beads_that_stand_in_one_alone(self):
        for ask in TURNS[2:] + CHANGES[2:]:
            samples.check_line_lacks(self, ask)

    def test_beads_turned_in_one_alone(self):
        for ours, theirs in (("|a|", "|-a|"), ("|a b|", "|-b -a|"), ("|a -b c|", "|a b c|"), ("|a -b|", "|-a b|"), ("|b a|", "|a -b|")):
            for first, second in ((ours, theirs), (theirs, ours)):
                for ask in CHANGES[2:]:
                    with self.assertRaises(NotLet) as taken:
                        ask(read_line(first), read_line(second))
                    self.assertEqual(taken.exception.book, "changes")
                self.assertGreater(fewest_turns(read_line(first), read_line(second)), 0)

    def test_one_bead_of_forty_turned_in_one_alone(self):
        line = shuffled(1, 40)
        other = line[:39] + mirror_all(line[39:])
        self.assertRaises(NotLet, fewest_changes, line, other)
        self.assertEqual(fewest_turns(line, other), 1)


if __name__ == "__main__":
    unittest.main()
