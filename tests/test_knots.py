import collections
import unittest

import samples
from samples import FORTRESS, KNOT, NEAR_FORTRESS, in_chain, knot_round, numbers_by, turned_frame
from strandwright.knots import cover, knots_of, sum_of_turns
from strandwright.numbers import numbers_of, point_rings
from strandwright.spans import own_points, whole_spans


def knots_by_words(numbers):
    """Point 23, word by word."""
    found = []
    for span, points in own_points(numbers).items():
        pairs = [(numbers[k], numbers[k + 1]) for k in points]
        moves = [pair for pair in pairs if pair[1] != pair[0] + 1]
        if moves and (all(min(pair) >= 0 for pair in moves) or all(max(pair) < 0 for pair in moves)):
            found.append(span)
    return sorted(found)


def ties_by_words(numbers):
    """All ties of the tree, each a pair of a dot of a span and a dot of a chain, and all dots."""
    wholes = whole_spans(numbers)
    chains = [[span] for span in wholes]
    for place in range(len(numbers)):
        ahead = [chain for chain in chains if chain[-1][1] == place]
        behind = [chain for chain in chains if chain[0][0] == place]
        for one in ahead:
            for other in behind:
                one.extend(other)
                chains.remove(other)
    ties = set()
    for chain in chains:
        dot = ("chain", *chain)
        ties.update((span, dot) for span in chain)
        outer = [span for span in wholes if span not in chain and span[0] <= chain[0][0] and chain[-1][1] <= span[1]]
        if outer:
            ties.add((min(outer, key=lambda span: span[1] - span[0]), dot))
    return ties, {*wholes, *(("chain", *chain) for chain in chains)}


def tree_by_words(numbers):
    """To each dot that is left the dots with which it is tied."""
    ties, dots = ties_by_words(numbers)
    knots = knots_by_words(numbers)
    while True:
        count = collections.Counter(dot for tie in ties for dot in tie)
        idle = [dot for dot in dots if dot not in knots and count[dot] <= 1]
        if not idle:
            return {dot: {end for tie in ties if dot in tie for end in tie if end != dot} for dot in dots}
        dots.remove(idle[0])
        ties = {tie for tie in ties if idle[0] not in tie}


def knots_of_branch(leaf, tree, knots):
    count, seen = 0, set()
    while len(tree[leaf]) <= 2:
        count += leaf in knots
        seen.add(leaf)
        [leaf] = tree[leaf] - seen
    return count


def leaves_by_words(numbers):
    tree = tree_by_words(numbers)
    return [dot for dot in tree if len(tree[dot]) <= 1]


def cover_by_words(numbers):
    tree, knots = tree_by_words(numbers), knots_by_words(numbers)
    leaves = leaves_by_words(numbers)
    if len(leaves) in range(3, 99, 2) and all(knots_of_branch(leaf, tree, knots) >= 2 for leaf in leaves):
        return len(leaves) + 1
    return len(leaves)


def all_numbers(count):
    theirs = tuple(samples.names(count))
    return [numbers_of(ours, theirs) for ours in samples.all_lines(theirs)]


def large_numbers():
    theirs = tuple(samples.names(40))
    lines = [samples.large_line(seed, turns=turns, widest=widest) for seed, turns, widest in
             ((0, 60, 40), (1, 60, 40), (2, 12, 5), (3, 8, 4), (4, 20, 3), (5, 0, 1))]
    return [numbers_of(ours, theirs) for ours in lines] + [numbers_by(run) for run in samples.knotty_runs(60, 6, 40)]


SOME = (
    # The line without beads, and lines as they should be.
    ((), [], 0),
    ((1, 2, 3), [], 0),
    # One knot alone, amid others that are at rest, and below 0.
    (KNOT, [(0, 3)], 1),
    ((1, 3, 2, 4), [(1, 4)], 1),
    ((3, 2, 1), [(0, 4)], 1),
    (turned_frame(KNOT), [(1, 4)], 1),
    ((-3, -1, -2, -4), [], 0),
    # None where both sides stand at the own points, at one or at some of them.
    ((-1,), [], 0),
    ((2, -1), [], 0),
    ((-2, -1), [], 0),
    ((-4, 2, -3, -1), [], 0),
    # One within another; one within a span that is none.
    (knot_round(KNOT), [(0, 6), (2, 5)], 2),
    (turned_frame(turned_frame(KNOT)), [(2, 5)], 1),
    (knot_round(turned_frame(KNOT)), [(0, 8), (3, 6)], 2),
    (knot_round(knot_round(KNOT)), [(0, 9), (2, 8), (4, 7)], 2),
    # Side by side in a chain, below 0 too; two within one, and within none.
    (in_chain(KNOT, KNOT), [(0, 3), (3, 6)], 2),
    (in_chain(KNOT, (), KNOT), [(0, 3), (4, 7)], 2),
    (turned_frame(in_chain(KNOT, KNOT)), [(1, 4), (4, 7)], 2),
    (knot_round(in_chain(KNOT, KNOT)), [(0, 9), (2, 5), (5, 8)], 3),
    # Three leaves, each branch short; one short; none short. A knot where the branches meet.
    (in_chain(KNOT, KNOT, KNOT), [(0, 3), (3, 6), (6, 9)], 3),
    (NEAR_FORTRESS, [(0, 6), (2, 5), (6, 9), (9, 15), (11, 14)], 3),
    (FORTRESS, [(0, 6), (2, 5), (6, 12), (8, 11), (12, 18), (14, 17)], 4),
    (turned_frame(FORTRESS), [(1, 7), (2, 5), (7, 13), (8, 11), (13, 19), (14, 17)], 4),
    (knot_round(in_chain(knot_round(KNOT), knot_round(KNOT))), [(0, 15), (2, 8), (4, 7), (8, 14), (10, 13)], 3),
    # Spans that are no knots count as none in a branch.
    (in_chain(*[turned_frame(KNOT)] * 3), [(1, 4), (6, 9), (11, 14)], 3),
    (in_chain(*[knot_round(turned_frame(KNOT))] * 3), [(0, 8), (3, 6), (8, 16), (11, 14), (16, 24), (19, 22)], 4),
    # Four leaves and five, each branch long.
    (in_chain(*[knot_round(KNOT)] * 4), None, 4),
    (in_chain(*[knot_round(KNOT)] * 5), None, 6),
    (in_chain(*[knot_round(KNOT)] * 5, KNOT), None, 6),
    (in_chain(*[knot_round(KNOT)] * 4, KNOT), None, 5),
)


class Knots(unittest.TestCase):
    def test_some(self):
        for run, knots, told in SOME:
            if knots is not None:
                self.assertEqual(knots_of(numbers_by(run)), knots, run)

    def test_all_small_lines(self):
        for count in (0, 1, 2, 3, 4):
            for numbers in all_numbers(count):
                self.assertEqual(knots_of(numbers), knots_by_words(numbers))

    def test_forty_beads(self):
        for numbers in large_numbers():
            self.assertEqual(knots_of(numbers), knots_by_words(numbers))
        self.assertEqual(len(knots_of(numbers_by(in_chain(*[KNOT] * 13)))), 13)
        self.assertEqual(knots_of(list(range(42))), [])


class Cover(unittest.TestCase):
    def test_some(self):
        for run, knots, told in SOME:
            self.assertEqual(cover(numbers_by(run)), told, run)

    def test_all_small_lines(self):
        for count in (0, 1, 2, 3, 4):
            for numbers in all_numbers(count):
                self.assertEqual(cover(numbers), cover_by_words(numbers))

    def test_forty_beads(self):
        met = collections.Counter()
        for numbers in large_numbers():
            told = cover(numbers)
            self.assertEqual(told, cover_by_words(numbers))
            leaves = len(leaves_by_words(numbers))
            met[min(leaves, 3), leaves % 2] += 1
        self.assertEqual(sorted(met), [(0, 0), (1, 1), (2, 0), (3, 0), (3, 1)])
        self.assertEqual(cover(numbers_by(in_chain(*[KNOT] * 13))), 13)

    def test_long_and_short_branches(self):
        long, short = knot_round(KNOT), KNOT
        for runs, told in (((long,) * 3, 4), ((long, long, short), 3), ((short, long, long), 3), ((short,) * 3, 3),
                           ((long, short, short), 3), ((long,) * 4, 4), ((long,) * 2, 2), ((long,), 2), ((short,), 1),
                           ((long, knot_round(long), long), 4), ((long, turned_frame(long), long), 4),
                           ((long, turned_frame(short), long), 3)):
            numbers = numbers_by(in_chain(*runs))
            self.assertEqual((cover(numbers), cover_by_words(numbers)), (told, told), runs)


class SumOfTurns(unittest.TestCase):
    def test_some(self):
        for run, told in (((), 0), ((1, 2), 0), ((-1,), 1), (KNOT, 3), ((-2, -1), 1), ((1, 3, 2), 3), ((3, 2, 1), 3), (FORTRESS, 16),
                          (NEAR_FORTRESS, 13), (in_chain(KNOT, KNOT), 6), (knot_round(KNOT), 6)):
            self.assertEqual(sum_of_turns(numbers_by(run)), told, run)

    def test_points_less_the_rings_and_the_cover_more(self):
        for numbers in [*all_numbers(3), *large_numbers()]:
            self.assertEqual(sum_of_turns(numbers), len(numbers) - 1 - len(point_rings(numbers)) + cover_by_words(numbers))

    def test_read_from_the_other_end(self):
        for numbers in large_numbers():
            other = [len(numbers) - 1 - number if number >= 0 else -(len(numbers) - 1 + number) for number in numbers[::-1]]
            self.assertEqual(sum_of_turns(other), sum_of_turns(numbers))
            self.assertEqual(cover(other), cover(numbers))


class Whole(unittest.TestCase):
    def test_nothing_handed_in_is_changed_and_lists_are_new(self):
        numbers = numbers_by(knot_round(KNOT))
        whole = list(numbers)
        samples.check_own_list(self, knots_of, numbers)
        self.assertEqual([cover(numbers), cover(numbers)], [2, 2])
        self.assertEqual([sum_of_turns(numbers), sum_of_turns(numbers)], [6, 6])
        self.assertEqual(numbers, whole)
        numbers[1:-1] = [1, 2, 3, 4, 5]
        self.assertEqual((knots_of(numbers), cover(numbers), sum_of_turns(numbers)), ([], 0, 0))


if __name__ == "__main__":
    unittest.main()
