"""The book two: all deeds, of sets."""

from strandwright.counts import power, woven
from strandwright.deeds import cut_of, deeds_from, put_in_place
from strandwright.drawing import drawing, joints_at, kinds_in, sum_of
from strandwright.errors import Mixed
from strandwright.joints import joint_of, joints_of
from strandwright.kinds import kinds_by
from strandwright.lets import refuse_lacks


def fewest_two(one, other):
    return sum_of(drawing(one, other))


def firsts_two(one, other):
    parts = drawing(one, other)
    return [deed for deed in deeds_from(one) if kinds_by(parts, deed)[2] == 1]


def deed_making(joint, ours):
    # The deed behind which this joint of theirs, which ours lacks, is one of ours.
    at = joints_at(ours)
    gone = tuple(sorted([at[end] for end in joint]))
    if len(gone) == 1:
        return cut_of(gone[0])
    rest = joint_of([end for end in gone[0] + gone[1] if end not in joint])
    come = [joint, rest] if rest else [joint]
    return (gone, tuple(sorted(come)))


def step_two(ours, theirs):
    # Joints of two ends go first: made so, each is a ring more. A free end of theirs that ours lacks behind these
    # is joined with another one, and both come free by one cut.
    lacked = [joint for joint in theirs if joint not in ours]
    return deed_making(max(lacked, key=len), ours)


def row_two(one, other):
    refuse_lacks([one, other])
    ours = joints_of(one)
    theirs = joints_of(other)
    row = []
    while ours != theirs:
        deed = step_two(ours, theirs)
        row.append(deed)
        ours = put_in_place(ours, deed)
    return row


def deeds_in(part):
    return len(part[1]) if part[0] == "theirs" else len(part[1]) - 1


def rows_two(one, other):
    parts = drawing(one, other)
    kinds = kinds_in(parts)
    if "ours" in kinds and "theirs" in kinds:
        raise Mixed()
    lengths = [deeds_in(part) for part in parts]
    return woven([(deeds, power(deeds + 1, deeds - 1)) for deeds in lengths])
