import itertools
import unittest

import samples
from strandwright.numbers import numbers_of
from strandwright.spans import own_points, whole_spans


def is_span(numbers, begin, end):
    """Point 23, word by word."""
    run = sorted(abs(number) for number in numbers[begin:end + 1])
    low, high = run[0], run[-1]
    if run != list(range(low, high + 1)):
        return False
    return (numbers[begin] == low and numbers[end] == high) or (numbers[begin] == -high and numbers[end] == -low)


def wholes_by_words(numbers):
    spans = [pair for pair in itertools.combinations(range(len(numbers)), 2) if is_span(numbers, *pair)]
    return [(begin, end) for begin, end in spans
            if not any((begin, place) in spans and (place, end) in spans for place in range(begin + 1, end))]


def own_by_words(numbers):
    wholes = wholes_by_words(numbers)
    own = {}
    for begin, end in wholes:
        inner = [(s, e) for s, e in wholes if begin <= s and e <= end and (s, e) != (begin, end)]
        own[begin, end] = [k for k in range(begin, end) if not any(s <= k < e for s, e in inner)]
    return own


def all_numbers(count):
    for order in itertools.permutations(range(1, count + 1)):
        for signs in itertools.product((1, -1), repeat=count):
            yield [0, *(sign * number for sign, number in zip(signs, order)), count + 1]


def large_numbers():
    names = tuple(samples.names(40))
    for seed in range(12):
        yield numbers_of(samples.large_line(seed, turns=3 * seed, widest=2 + seed), names)
    yield list(range(42))
    yield [0, *range(-40, 0), 41]
    yield [0, *range(40, 0, -1), 41]
    yield [0, *(number for k in range(1, 40, 4) for number in (k, k + 2, k + 1, k + 3)), 41]


# Numbers, and their whole spans with the points that are each one's own.
SOME = (
    ([0, 1], {(0, 1): [0]}),
    ([0, 1, 2], {(0, 1): [0], (1, 2): [1]}),
    ([0, -1, 2], {(0, 2): [0, 1]}),
    ([0, 2, 1, 3], {(0, 3): [0, 1, 2]}),
    ([0, -2, -1, 3], {(0, 3): [0, 2], (1, 2): [1]}),
    # A chain of two.
    ([0, 2, 1, 3, 5, 4, 6], {(0, 3): [0, 1, 2], (3, 6): [3, 4, 5]}),
    # One within another, from 0 on, and one below 0.
    ([0, 5, 1, 3, 2, 4, 6], {(0, 6): [0, 1, 5], (2, 5): [2, 3, 4]}),
    ([0, -4, -2, -3, -1, 5], {(0, 5): [0, 4], (1, 4): [1, 2, 3]}),
    ([0, -4, 2, -3, -1, 5], {(0, 5): [0, 4], (1, 4): [1, 2, 3]}),
    # A chain of two below 0, within another.
    ([0, -7, -5, -6, -4, -2, -3, -1, 8], {(0, 8): [0, 7], (1, 4): [1, 2, 3], (4, 7): [4, 5, 6]}),
    # Three and more within one another, with chains in them.
    ([0, 9, 1, 7, 2, 4, 3, 5, 6, 8, 10], {(0, 10): [0, 1, 9], (2, 9): [2, 3, 8], (4, 7): [4, 5, 6], (7, 8): [7]}),
    ([0, 10, 1, -8, -3, -5, -4, -6, -7, -2, 9, 11], {(0, 11): [0, 1, 10], (2, 10): [2, 9], (3, 9): [3, 4, 6, 7, 8], (5, 6): [5]}),
    # Runs without a gap that the least and the greatest of them don't begin and end, or with other signs.
    ([0, 5, 2, 4, 3, 1, 6], {(0, 6): [0, 1, 2, 3, 4, 5]}),
    ([0, -4, -2, -3, 1, 5], {(0, 5): [0, 1, 2, 3, 4]}),
    ([0, -1, -2, -3, -4, 5], {(0, 5): [0, 1, 2, 3, 4]}),
)


class Spans(unittest.TestCase):
    def test_some(self):
        for numbers, own in SOME:
            self.assertEqual(whole_spans(numbers), sorted(own), numbers)
            self.assertEqual(own_points(numbers), own, numbers)

    def test_all_small_lines(self):
        for count in (0, 1, 2, 3, 4):
            for numbers in all_numbers(count):
                self.assertEqual(whole_spans(numbers), wholes_by_words(numbers))
                self.assertEqual(own_points(numbers), own_by_words(numbers))

    def test_of_two_lines(self):
        for ours, theirs in itertools.product(samples.all_lines("abc"), repeat=2):
            numbers = numbers_of(ours, theirs)
            self.assertEqual(own_points(numbers), own_by_words(numbers))

    def test_forty_beads(self):
        counts = set()
        for numbers in large_numbers():
            self.assertEqual(whole_spans(numbers), wholes_by_words(numbers))
            self.assertEqual(own_points(numbers), own_by_words(numbers))
            counts.add(len(whole_spans(numbers)))
        self.assertEqual(whole_spans(list(range(42))), [(k, k + 1) for k in range(41)])
        self.assertGreater(len(counts), 5)

    def test_each_point_is_one_spans_own(self):
        for numbers in large_numbers():
            own = own_points(numbers)
            self.assertEqual(list(own), sorted(own))
            self.assertEqual(sorted(point for points in own.values() for point in points), list(range(41)))
            self.assertTrue(all(points and points == sorted(points) for points in own.values()))

    def test_nothing_handed_in_is_changed_and_what_is_told_is_new(self):
        numbers = [0, -4, -2, -3, -1, 5]
        whole_spans(numbers).clear()
        own = own_points(numbers)
        own[0, 5].clear()
        own.clear()
        self.assertEqual(whole_spans(numbers), [(0, 5), (1, 4)])
        self.assertEqual(own_points(numbers), {(0, 5): [0, 4], (1, 4): [1, 2, 3]})
        self.assertEqual(numbers, [0, -4, -2, -3, -1, 5])
        numbers[1:5] = [1, 2, 3, 4]
        self.assertEqual(whole_spans(numbers), [(k, k + 1) for k in range(5)])


if __name__ == "__main__":
    unittest.main()
