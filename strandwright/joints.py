"""Ends of beads, and the joints in which they stand: what a set or a line is, however it is written."""

from strandwright.beads import is_name, is_turned, mirrored, name_of
from strandwright.canon import canon
from strandwright.lets import is_whole

# The posts of a line, between which its beads lie.
POST_AHEAD = ("", 1)
POST_BEHIND = ("", 0)


def left_end(bead):
    return (name_of(bead), 1 if is_turned(bead) else 0)


def right_end(bead):
    return left_end(mirrored(bead))


def joint_of(ends):
    return tuple(sorted(ends))


def rising(things):
    return all([one < other for one, other in zip(things, things[1:])])


def is_end(thing):
    if not isinstance(thing, tuple) or len(thing) != 2 or not is_name(thing[0]):
        return False
    return is_whole(thing[1]) and thing[1] in (0, 1)


def is_joint(thing):
    if not isinstance(thing, tuple) or len(thing) not in (1, 2):
        return False
    return all([is_end(end) for end in thing]) and rising(thing)


def inner_joints(beads):
    return [joint_of((right_end(one), left_end(other))) for one, other in zip(beads, beads[1:])]


def strand_joints(strand):
    beads = strand[1]
    begin = left_end(beads[0])
    end = right_end(beads[-1])
    outer = [(begin,), (end,)] if strand[0] == "open" else [joint_of((begin, end))]
    return inner_joints(beads) + outer


def joints_of(some):
    joints = []
    for strand in some:
        joints.extend(strand_joints(strand))
    return tuple(sorted(joints))


def line_joints(line):
    ends = [POST_AHEAD]
    for bead in line:
        ends.extend([left_end(bead), right_end(bead)])
    ends.append(POST_BEHIND)
    return tuple(sorted([joint_of(ends[k:k + 2]) for k in range(0, len(ends), 2)]))


def ends_beyond(joints):
    # From each end to the one that it is joined with; a free end is told by None.
    beyond = {}
    for joint in joints:
        beyond[joint[0]] = joint[1] if len(joint) == 2 else None
        beyond[joint[-1]] = joint[0] if len(joint) == 2 else None
    return beyond


def bead_at(end):
    return end[0] if end[1] == 0 else mirrored(end[0])


def across(end):
    return (end[0], 1 - end[1])


def beads_from(begin, beyond):
    beads = [bead_at(begin)]
    here = beyond[across(begin)]
    while here is not None and here != begin:
        beads.append(bead_at(here))
        here = beyond[across(here)]
    return tuple(beads)


def set_of(joints):
    beyond = ends_beyond(joints)
    free = [end for end in sorted(beyond) if beyond[end] is None]
    strands = []
    seen = {}
    # Open strands go first: what no walk from a free end has met hangs on rings.
    for end in free + sorted(beyond):
        if end[0] not in seen:
            beads = beads_from(end, beyond)
            strands.append(("open" if beyond[end] is None else "ring", beads))
            for bead in beads:
                seen[name_of(bead)] = True
    return canon(strands)
