"""The book one: cuts and joins alone, of sets."""

from strandwright.counts import woven, zigzag
from strandwright.deeds import back, cut_of, ends_of
from strandwright.drawing import drawing
from strandwright.joints import joints_of, set_of
from strandwright.lets import refuse_lacks


def pairs_in(joints):
    return [joint for joint in joints if len(joint) == 2]


def pairs_lacked(ours, theirs):
    return [joint for joint in pairs_in(ours) if joint not in theirs]


def pairs_apart(ours, theirs):
    # Those to be cut, and those to be joined.
    return (pairs_lacked(ours, theirs), pairs_lacked(theirs, ours))


def cuts_and_joins(one, other):
    refuse_lacks([one, other])
    apart = pairs_apart(joints_of(one), joints_of(other))
    cuts = [cut_of(joint) for joint in apart[0]]
    return (cuts, [back(cut_of(joint)) for joint in apart[1]])


def fewest_one(one, other):
    return sum([len(deeds) for deeds in cuts_and_joins(one, other)])


def firsts_one(one, other):
    both = cuts_and_joins(one, other)
    ours = joints_of(one)
    joins = [join for join in both[1] if all([joint in ours for joint in join[0]])]
    return sorted(both[0] + joins)


def row_one(one, other):
    # All cuts go first, so that all ends are free that are to be joined.
    both = cuts_and_joins(one, other)
    return both[0] + both[1]


def rows_in(part):
    apart = pairs_apart(part[1], part[2])
    deeds = len(apart[0]) + len(apart[1])
    # A ring is begun by any of its cuts, and is a way behind it.
    if part[0] == "ring" and deeds > 0:
        return (deeds, len(apart[0]) * zigzag(deeds - 1))
    return (deeds, zigzag(deeds))


def rows_one(one, other):
    return woven([rows_in(part) for part in drawing(one, other)])


def count_pairs(some):
    count = {}
    for one in some:
        for joint in pairs_in(joints_of(one)):
            count[joint] = count.get(joint, 0) + 1
    return count


def amid_one(some):
    refuse_lacks(some)
    count = count_pairs(some)
    joined = [joint for joint in count if 2 * count[joint] > len(some)]
    held = ends_of(joined)
    free = [(end,) for end in ends_of(joints_of(some[0])) if end not in held]
    return set_of(tuple(joined + free))
