"""The drawing of two sets: the joints of both, tied by the ends that they share, and the parts into which it falls."""

from strandwright.joints import joints_of
from strandwright.lets import refuse_lacks

# By how many joints of one end a part has of ours, and of theirs.
KINDS = {(0, 0): "ring", (1, 1): "odd", (2, 0): "ours", (0, 2): "theirs"}


def joints_at(joints):
    at = {}
    for joint in joints:
        for end in joint:
            at[end] = joint
    return at


def count_free(joints):
    return len([joint for joint in joints if len(joint) == 1])


def count_ends(joints):
    return sum([len(joint) for joint in joints])


def part_round(first, ours_at, theirs_at):
    ours = {first: True}
    theirs = {}
    todo = [first]
    while todo:
        joint = todo.pop()
        for their in [theirs_at[end] for end in joint]:
            theirs[their] = True
            for our in [ours_at[end] for end in their]:
                if our not in ours:
                    ours[our] = True
                    todo.append(our)
    kind = KINDS[(count_free(ours), count_free(theirs))]
    return (kind, tuple(sorted(ours)), tuple(sorted(theirs)))


def parts_of(ours, theirs):
    ours_at = joints_at(ours)
    theirs_at = joints_at(theirs)
    parts = []
    seen = {}
    # A part has a joint of ours always: each end of theirs stands in one.
    for joint in ours:
        if joint not in seen:
            part = part_round(joint, ours_at, theirs_at)
            parts.append(part)
            for our in part[1]:
                seen[our] = True
    return sorted(parts)


def drawing(one, other):
    refuse_lacks([one, other])
    return parts_of(joints_of(one), joints_of(other))


def kinds_in(parts):
    return tuple(sorted([part[0] for part in parts]))


def twice_saved(parts):
    # Doubled, as an odd way by itself takes but a half from the sum.
    kinds = kinds_in(parts)
    return 2 * kinds.count("ring") + kinds.count("odd")


def sum_of(parts):
    ends = sum([count_ends(part[1]) for part in parts])
    return (ends - twice_saved(parts)) // 2
