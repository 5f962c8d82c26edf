"""Deeds on sets: joints that go, and joints of the same ends that come in their place."""

from strandwright.errors import NoDeed
from strandwright.joints import is_joint, joint_of, joints_of, rising, set_of

# How many ends the joints have that go, and those that come, from the fewest to the most.
FORMS = (((2,), (1, 1)), ((1, 1), (2,)), ((2, 2), (2, 2)), ((1, 2), (1, 2)))


def is_half(thing):
    # The length goes first, so that a very long tuple is not walked.
    if not isinstance(thing, tuple) or len(thing) not in (1, 2):
        return False
    return all([is_joint(joint) for joint in thing]) and rising(thing)


def sizes(joints):
    return tuple(sorted([len(joint) for joint in joints]))


def ends_of(joints):
    ends = []
    for joint in joints:
        ends.extend(joint)
    return sorted(ends)


def is_deed(thing):
    if not isinstance(thing, tuple) or len(thing) != 2 or not all([is_half(half) for half in thing]):
        return False
    gone = thing[0]
    come = thing[1]
    ends = ends_of(gone)
    if not rising(ends) or ends != ends_of(come):
        return False
    return (sizes(gone), sizes(come)) in FORMS and gone != come


def refuse_undoable(joints, deed):
    if not is_deed(deed) or not all([joint in joints for joint in deed[0]]):
        raise NoDeed()


def put_in_place(joints, deed):
    stay = [joint for joint in joints if joint not in deed[0]]
    return tuple(sorted(stay + list(deed[1])))


def done(some, deed):
    joints = joints_of(some)
    refuse_undoable(joints, deed)
    return set_of(put_in_place(joints, deed))


def back(deed):
    if not is_deed(deed):
        raise NoDeed()
    return (deed[1], deed[0])


def cut_of(joint):
    return ((joint,), ((joint[0],), (joint[1],)))


def exchanges(pair, other):
    # One end of the pair goes to the other's first end; what is left comes together.
    found = []
    for k in (0, 1):
        come = [joint_of((other[0], pair[k])), joint_of(other[1:] + (pair[1 - k],))]
        found.append(tuple(sorted(come)))
    return found


def deeds_on(one, other):
    if len(one) == 2:
        comes = exchanges(one, other)
    elif len(other) == 2:
        comes = exchanges(other, one)
    else:
        comes = [(joint_of(one + other),)]
    return [((one, other), come) for come in comes]


def is_cut_or_join(deed):
    # All other deeds take away as many joints as come.
    return len(deed[0]) != len(deed[1])


def deeds_among(joints):
    found = [cut_of(joint) for joint in joints if len(joint) == 2]
    for k, one in enumerate(joints):
        for other in joints[k + 1:]:
            found.extend(deeds_on(one, other))
    return sorted(found)


def deeds_from(some):
    return deeds_among(joints_of(some))
