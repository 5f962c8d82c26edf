import itertools
import unittest

import samples
from strandwright.canon import renamed
from strandwright.errors import Lacks
from strandwright.joints import line_joints
from strandwright.numbers import numbers_of, point_rings
from strandwright.texts import read_line


def told(ours, theirs):
    return numbers_of(read_line(ours), read_line(theirs))


def numbers_by_words(ours, theirs):
    """Point 22, word by word."""
    found = [0]
    for bead in ours:
        place = [other.strip("-") for other in theirs].index(bead.strip("-"))
        found.append(place + 1 if theirs[place] == bead else -place - 1)
    return found + [len(ours) + 1]


def rings_by_drawing(ours, theirs):
    """By the joints of both lines: point k is the joint between bead number k - 1 and bead number k."""
    padded = [None, *ours, None]
    point_of = {}
    for k in range(len(ours) + 1):
        ends = [("", 1) if padded[k] is None else (padded[k].strip("-"), 0 if padded[k][0] == "-" else 1),
                ("", 0) if padded[k + 1] is None else (padded[k + 1].strip("-"), 1 if padded[k + 1][0] == "-" else 0)]
        point_of[tuple(sorted(ends))] = k
    parts = samples.parts_by_ties(line_joints(ours), line_joints(theirs))
    assert all(part[0] == "ring" for part in parts)
    return sorted(sorted(point_of[joint] for joint in part[1]) for part in parts)


class NumbersOf(unittest.TestCase):
    def test_some(self):
        for ours, theirs, numbers in (("||", "||", [0, 1]), ("|a|", "|a|", [0, 1, 2]), ("|a|", "|-a|", [0, -1, 2]),
                                      ("|-a|", "|a|", [0, -1, 2]), ("|-a|", "|-a|", [0, 1, 2]),
                                      ("|b a|", "|a b|", [0, 2, 1, 3]), ("|c -a b|", "|a b c|", [0, 3, -1, 2, 4]),
                                      ("|c -a b|", "|-a -b c|", [0, 3, 1, -2, 4]), ("|a b c|", "|c -a b|", [0, -2, 3, 1, 4])):
            self.assertEqual(told(ours, theirs), numbers, (ours, theirs))

    def test_all_small_lines(self):
        for count in (0, 1, 2, 3):
            for ours, theirs in itertools.product(samples.all_lines(samples.names(count)), repeat=2):
                self.assertEqual(numbers_of(ours, theirs), numbers_by_words(ours, theirs))

    def test_forty_beads(self):
        for seed in range(10):
            ours, theirs = samples.large_line(seed), samples.large_line(seed + 50)
            self.assertEqual(numbers_of(ours, theirs), numbers_by_words(ours, theirs))
            self.assertEqual(numbers_of(ours, ours), list(range(42)))
            self.assertEqual(sorted(abs(number) for number in numbers_of(ours, theirs)), list(range(42)))

    def test_with_beads_renamed(self):
        names = dict(zip(samples.names(40), ["-" + name for name in samples.names(40)[::-1]]))
        for seed in range(5):
            ours, theirs = samples.large_line(seed), samples.large_line(seed + 50)
            self.assertEqual(numbers_of(renamed(ours, names), renamed(theirs, names)), numbers_of(ours, theirs))

    def test_beads_that_stand_in_one_alone(self):
        for ours, theirs, name in (("|a b|", "|a|", "b"), ("|c b|", "|b a d|", "a"), ("||", "|z y x|", "x"), ("|-b|", "|-a|", "a"),
                                   ("|a -c|", "|a -b|", "b"), ("|ab a|", "|a aa|", "aa")):
            for first, second in ((ours, theirs), (theirs, ours)):
                with self.assertRaises(Lacks) as taken:
                    told(first, second)
                self.assertEqual(taken.exception.name, name)

    def test_the_list_is_the_askers_own(self):
        ours, theirs = read_line("|c -a b|"), read_line("|a b c|")
        numbers_of(ours, theirs).clear()
        self.assertEqual(numbers_of(ours, theirs), [0, 3, -1, 2, 4])


class PointRings(unittest.TestCase):
    def test_some(self):
        for numbers, rings in (([0, 1], [[0]]), ([0, 1, 2, 3], [[0], [1], [2]]), ([0, -1, 2], [[0, 1]]),
                               ([0, 2, 1, 3], [[0, 1, 2]]), ([0, 1, -2, 3], [[0], [1, 2]]), ([0, -2, -1, 3], [[0, 2], [1]]),
                               ([0, 3, 2, 1, 4], [[0, 2], [1, 3]]), ([0, 2, 3, 1, 4], [[0, 2, 3], [1]])):
            self.assertEqual(point_rings(numbers), rings, numbers)

    def test_all_small_lines(self):
        for count in (0, 1, 2, 3):
            for ours, theirs in itertools.product(samples.all_lines(samples.names(count)), repeat=2):
                self.assertEqual(point_rings(numbers_of(ours, theirs)), rings_by_drawing(ours, theirs))
        theirs = tuple(samples.names(4))
        for ours in samples.all_lines(theirs):
            self.assertEqual(point_rings(numbers_of(ours, theirs)), rings_by_drawing(ours, theirs))

    def test_each_point_in_one_ring_and_those_at_rest_alone(self):
        for seed in range(10):
            numbers = numbers_of(samples.large_line(seed, widest=5, turns=12), tuple(samples.names(40)))
            rings = point_rings(numbers)
            self.assertEqual(sorted(point for ring in rings for point in ring), list(range(41)))
            self.assertEqual([ring for ring in rings if len(ring) == 1],
                             [[k] for k in range(41) if numbers[k + 1] == numbers[k] + 1])

    def test_forty_beads(self):
        for seed in range(5):
            ours, theirs = samples.large_line(seed), samples.large_line(seed + 50)
            rings = point_rings(numbers_of(ours, theirs))
            self.assertEqual(rings, rings_by_drawing(ours, theirs))
            self.assertEqual(len(rings), len(point_rings(numbers_of(theirs, ours))))
            self.assertEqual(len(rings), len(point_rings(numbers_of(samples.mirror_all(ours), samples.mirror_all(theirs)))))

    def test_nothing_handed_in_is_changed_and_lists_are_new(self):
        numbers = [0, 3, -1, 2, 4]
        first = point_rings(numbers)
        whole = [list(ring) for ring in first]
        first[0].clear()
        first.clear()
        self.assertEqual(point_rings(numbers), whole)
        self.assertEqual(numbers, [0, 3, -1, 2, 4])
        numbers[1:4] = [1, 2, 3]
        self.assertEqual(point_rings(numbers), [[0], [1], [2], [3]])


if __name__ == "__main__":
    unittest.main()
