"""Sets and lines to test with: all small ones, some large ones, and things that are neither."""

import itertools
import random

from strandwright.canon import canon
from strandwright.deeds import back, deeds_from, done
from strandwright.errors import Lacks
from strandwright.joints import set_of
from strandwright.texts import read_line, read_set


def names(count):
    letters = "abcdefghijklmnopqrstuvwxyz"
    some = [letters[k % 26] * (1 + k // 26) for k in range(count)]
    return some


def matchings(ends):
    """All ways to match some of the ends in pairs, the others left alone."""
    if not ends:
        yield ()
        return
    head, rest = ends[0], ends[1:]
    for tail in matchings(rest):
        yield ((head,),) + tail
    for k, mate in enumerate(rest):
        for tail in matchings(rest[:k] + rest[k + 1:]):
            yield ((head, mate),) + tail


def all_sets(count):
    """All sets of so many beads, as canons."""
    return [set_of(joints) for joints in matchings(tuple(itertools.product(names(count), (0, 1))))]


def all_small():
    for count in (0, 1, 2, 3):
        yield from all_sets(count)


def all_behind(sets):
    """From each set to all pairs of a deed that can be done in it and the set behind it."""
    return {some: [(deed, done(some, deed)) for deed in deeds_from(some)] for some in sets}


def rows_from(start, behind):
    """By a plain search over all rows: from each set that can be come to, to the fewest deeds and the count of rows."""
    found = {start: (0, 1)}
    here = [start]
    while here:
        fresh = {}
        for some in here:
            fewest, count = found[some]
            for deed, other in behind[some]:
                if other not in found:
                    fresh[other] = (fewest + 1, fresh.get(other, (0, 0))[1] + count)
        found.update(fresh)
        here = list(fresh)
    return found


def set_behind(some, row):
    for deed in row:
        some = done(some, deed)
    return some


def strands_by_order(beads):
    """All sets with the placed beads in this order, cut anywhere, each strand of both kinds."""
    for cuts in itertools.product((False, True), repeat=max(0, len(beads) - 1)):
        runs = [[]]
        for k, bead in enumerate(beads):
            if k and cuts[k - 1]:
                runs.append([])
            runs[-1].append(bead)
        runs = [tuple(run) for run in runs if run]
        for kinds in itertools.product(("open", "ring"), repeat=len(runs)):
            yield tuple(zip(kinds, runs))


def all_written(some_names):
    """All sets of just these names, in each way in which they can be written."""
    found = set()
    for order in itertools.permutations(some_names):
        for signs in itertools.product(("", "-"), repeat=len(order)):
            beads = [sign + name for sign, name in zip(signs, order)]
            found.update(strands_by_order(beads))
    return sorted(found)


def large_set(seed, count=40, kinds=("open", "ring")):
    chance = random.Random(seed)
    beads = names(count)
    chance.shuffle(beads)
    beads = [chance.choice(("", "-")) + bead for bead in beads]
    strands = []
    while beads:
        size = chance.randint(1, 9)
        strands.append((chance.choice(kinds), tuple(beads[:size])))
        beads = beads[size:]
    return tuple(strands)


def all_lines(some_names):
    for order in itertools.permutations(some_names):
        for signs in itertools.product(("", "-"), repeat=len(order)):
            yield tuple(sign + name for sign, name in zip(signs, order))


def large_line(seed, count=40, turns=60, widest=40):
    """The line of all names in order, with some runs of beads turned about: small ones leave much at rest."""
    chance = random.Random(seed)
    line = tuple(names(count))
    for turn in range(turns):
        begin = chance.randrange(count)
        end = min(count, begin + chance.randint(1, widest))
        line = line[:begin] + mirror_all(line[begin:end]) + line[end:]
    return line


def mirror(bead):
    return bead[1:] if bead[0] == "-" else "-" + bead


def mirror_all(beads):
    return tuple(mirror(bead) for bead in beads[::-1])


def looks(strand):
    """All ways in which one strand can be written."""
    kind, beads = strand
    found = []
    for side in (beads, mirror_all(beads)):
        if kind == "open":
            found.append((kind, side))
        else:
            found.extend((kind, side[k:] + side[:k]) for k in range(len(side)))
    return found


def same_by_matching(one, other):
    """Point 6, word by word: strands matched one to one."""
    left = list(other)
    for strand in one:
        mates = [mate for mate in left if mate in looks(strand)]
        if not mates:
            return False
        left.remove(mates[0])
    return not left


def rewritten(some, seed):
    """The same set, each strand written otherwise, the strands in another order."""
    chance = random.Random(seed)
    strands = [chance.choice(looks(strand)) for strand in some]
    chance.shuffle(strands)
    return tuple(strands)


class Stubborn:
    """A thing that can't be compared, measured, walked or hashed."""

    __hash__ = None

    def __eq__(self, other):
        raise RuntimeError("compared")

    def __bool__(self):
        raise RuntimeError("asked for its truth")

    def __len__(self):
        raise RuntimeError("measured")

    def __iter__(self):
        raise RuntimeError("walked")


NO_TEXTS = (
    None, True, False, 0, 1, -7, 1.5, b"a", b"", [], ["a"], (), ("a",), {}, {"a": 1}, {"a"}, object(), Stubborn(),
)


def parts_by_ties(ours, theirs):
    """Point 13, word by word: dots, tied two by two until nothing more comes together."""
    dots = [(True, joint) for joint in ours] + [(False, joint) for joint in theirs]
    heaps = {dot: [dot] for dot in dots}
    for mine, joint in dots:
        for other, mate in dots:
            if mine != other and set(joint) & set(mate) and heaps[mine, joint] is not heaps[other, mate]:
                heap = heaps[mine, joint] + heaps[other, mate]
                heaps.update((dot, heap) for dot in heap)
    parts = set()
    for heap in heaps.values():
        sides = [tuple(sorted(joint for mine, joint in heap if mine == side)) for side in (True, False)]
        free = tuple(sum(len(joint) == 1 for joint in side) for side in sides)
        parts.add(({(0, 0): "ring", (1, 1): "odd", (2, 0): "ours", (0, 2): "theirs"}[free], *sides))
    return sorted(parts)


# Two sets of unlike beads, and the first name, as sorted, that stands in one alone.
UNLIKE_SETS = (
    ("[a b]", "[a]", "b"), ("[c] (b)", "[b] (a d)", "a"), ("", "[z y] (x)", "x"), ("[a] [q]", "", "a"),
    ("[ab a]", "[a aa]", "aa"), ("[c -b]", "[-c a]", "a"), ("(e d c)", "(e d b)", "b"), ("(a) (d)", "(a) [-c b]", "b"),
)


def check_lacks(case, asked, more=()):
    for one, other, name in UNLIKE_SETS + more:
        for first, second in ((one, other), (other, one)):
            with case.assertRaises(Lacks) as taken:
                asked(read_set(first), read_set(second))
            case.assertEqual(taken.exception.name, name)


def check_own_list(case, asked, *given):
    """What is done to a list that was told changes nothing of what is told later."""
    first = asked(*given)
    whole = list(first)
    case.assertTrue(whole)
    first.clear()
    case.assertEqual(asked(*given), whole)


def check_row(case, one, other, row, fewest):
    """A row of so many deeds from the one to the other, and run back from the other to the one."""
    case.assertEqual(len(row), fewest)
    case.assertEqual(set_behind(one, row), canon(other))
    case.assertEqual(set_behind(other, [back(deed) for deed in row[::-1]]), canon(one))


def sets_of_forty():
    """One ring, one open strand, all beads as rings, and all as open strands."""
    ring, rings = (("ring", tuple(names(40))),), tuple(("ring", (name,)) for name in names(40))
    return ring, (("open", ring[0][1]),), rings, tuple(("open", strand[1]) for strand in rings)


# Runs of numbers as they stand between 0 and the number behind them all, put together so that they have knots.
KNOT = (2, 1)


def shifted(run, by):
    return tuple(number + by if number > 0 else number - by for number in run)


def framed(run):
    return (1, *shifted(run, 1), len(run) + 2)


def knot_round(run):
    return (len(run) + 3, *framed(run))


def turned_frame(run):
    return tuple(-number for number in framed(run)[::-1])


def in_chain(*runs):
    whole = ()
    for k, run in enumerate(runs):
        whole += (len(whole) + 1,) if k else ()
        whole += shifted(run, len(whole))
    return whole


def knotty_run(chance, depth):
    choice = chance.randrange(8) if depth else chance.randrange(3)
    if choice < 3:
        return (KNOT, KNOT, ())[choice]
    if choice < 6:
        return (knot_round, turned_frame)[choice == 5](knotty_run(chance, depth - 1))
    return in_chain(*[knotty_run(chance, depth - 1) for number in range(choice - 4)])


def knotty_runs(count, depth, most):
    """So many runs of at most so many numbers, most of them with knots within one another and in chains."""
    chance = random.Random(count + depth)
    found = []
    while len(found) < count:
        run = knotty_run(chance, depth)
        if len(run) <= most:
            found.append(run)
    return found


def numbers_by(run):
    return [0, *run, len(run) + 1]


def line_by(run):
    """The line whose numbers, with all names in order as theirs, are the run."""
    some = names(len(run))
    return tuple(("-" if number < 0 else "") + some[abs(number) - 1] for number in run)


# Three branches with two knots each, and the same with a third one short.
FORTRESS = in_chain(*[knot_round(KNOT)] * 3)
NEAR_FORTRESS = in_chain(knot_round(KNOT), KNOT, knot_round(KNOT))


# Two lines of unlike beads, and the first name, as sorted, that stands in one alone.
UNLIKE_LINES = (
    ("|a b|", "|a|", "b"), ("|c b|", "|b a d|", "a"), ("||", "|z y x|", "x"), ("|-b|", "|-a|", "a"), ("|a -c|", "|a -b|", "b"),
    ("|ab a|", "|a aa|", "aa"), ("|a b|", "|-a -c|", "b"), ("|b -d|", "|-b d e|", "e"),
)


def check_line_lacks(case, asked):
    for ours, theirs, name in UNLIKE_LINES:
        for first, second in ((ours, theirs), (theirs, ours)):
            with case.assertRaises(Lacks) as taken:
                asked(read_line(first), read_line(second))
            case.assertEqual(taken.exception.name, name)
