import itertools
import random
import unittest

import samples
from strandwright.canon import canon
from strandwright.joints import joints_of, line_joints, set_of


def ends_of_bead(bead):
    """The left and the right end."""
    name = bead.lstrip("-")
    return ((name, 1), (name, 0)) if bead[0] == "-" else ((name, 0), (name, 1))


def joints_by_walk(some):
    """Point 7, word by word."""
    found = set()
    for kind, beads in some:
        for k in range(len(beads) - 1):
            found.add(tuple(sorted((ends_of_bead(beads[k])[1], ends_of_bead(beads[k + 1])[0]))))
        begin, end = ends_of_bead(beads[0])[0], ends_of_bead(beads[-1])[1]
        if kind == "ring":
            found.add(tuple(sorted((begin, end))))
        else:
            found.update({(begin,), (end,)})
    return tuple(sorted(found))


class Joints(unittest.TestCase):
    def test_an_open_strand(self):
        self.assertEqual(joints_of((("open", ("a", "-b", "c")),)),
                         ((("a", 0),), (("a", 1), ("b", 1)), (("b", 0), ("c", 0)), (("c", 1),)))
        self.assertEqual(joints_of((("open", ("-a",)),)), ((("a", 0),), (("a", 1),)))

    def test_rings(self):
        self.assertEqual(joints_of((("ring", ("a",)),)), ((("a", 0), ("a", 1)),))
        self.assertEqual(joints_of((("ring", ("-a",)),)), ((("a", 0), ("a", 1)),))
        self.assertEqual(joints_of((("ring", ("b", "a")),)), ((("a", 0), ("b", 1)), (("a", 1), ("b", 0))))
        self.assertEqual(joints_of((("ring", ("b", "-a")),)), ((("a", 0), ("b", 0)), (("a", 1), ("b", 1))))

    def test_the_empty_set(self):
        self.assertEqual(joints_of(()), ())

    def test_all_small_sets(self):
        for count in (1, 2, 3):
            for some in samples.all_written(samples.names(count)):
                self.assertEqual(joints_of(some), joints_by_walk(some))

    def test_the_same_just_where_the_joints_are(self):
        written = samples.all_written(["a", "b"])
        for one, other in itertools.product(written, written):
            self.assertEqual(joints_of(one) == joints_of(other), samples.same_by_matching(one, other))

    def test_forty_beads(self):
        for seed in range(10):
            some = samples.large_set(seed)
            told = joints_of(some)
            self.assertEqual(told, joints_by_walk(some))
            self.assertEqual(joints_of(samples.rewritten(some, seed)), told)
            ends = sorted(end for joint in told for end in joint)
            self.assertEqual(ends, sorted(itertools.product(samples.names(40), (0, 1))))


class LineJoints(unittest.TestCase):
    def test_the_posts_ends(self):
        self.assertEqual(line_joints(()), ((("", 0), ("", 1)),))
        self.assertEqual(line_joints(("a",)), ((("", 0), ("a", 1)), (("", 1), ("a", 0))))
        self.assertEqual(line_joints(("-a",)), ((("", 0), ("a", 0)), (("", 1), ("a", 1))))

    def test_beads_between(self):
        self.assertEqual(line_joints(("b", "-a", "c")),
                         ((("", 0), ("c", 1)), (("", 1), ("b", 0)), (("a", 0), ("c", 0)), (("a", 1), ("b", 1))))

    def test_as_a_ring_with_the_post_as_its_bead(self):
        for count in (1, 2, 3, 40):
            for seed in range(5):
                line = tuple(bead for kind, beads in samples.large_set(seed, count) for bead in beads)
                told = line_joints(line)
                asked = joints_by_walk((("ring", ("P",) + line),))
                self.assertEqual(told, tuple(sorted(
                    tuple(sorted((name.strip("P"), side) for name, side in joint)) for joint in asked)))


class SetOf(unittest.TestCase):
    def test_all_matchings_of_ends(self):
        for count, number in ((0, 1), (1, 2), (2, 10), (3, 76)):
            told = set()
            for joints in samples.matchings(tuple(itertools.product(samples.names(count), (0, 1)))):
                for order in (joints, joints[::-1], joints[1:] + joints[:1]):
                    some = set_of(order)
                    self.assertEqual(joints_by_walk(some), tuple(sorted(joints)))
                    self.assertEqual(some, canon(some))
                    self.assertIsInstance(some, tuple)
                told.add(some)
            self.assertEqual(len(told), number)

    def test_there_and_back_with_forty_beads(self):
        chance = random.Random(11)
        for seed in range(20):
            some = samples.large_set(seed)
            joints = list(joints_of(some))
            chance.shuffle(joints)
            self.assertEqual(set_of(tuple(joints)), canon(some))

    def test_one_long_strand_and_one_long_ring(self):
        for kind in ("open", "ring"):
            some = ((kind, tuple("-" + name if k % 3 else name for k, name in enumerate(samples.names(40)))),)
            self.assertEqual(set_of(joints_of(some)[::-1]), canon(some))


if __name__ == "__main__":
    unittest.main()
