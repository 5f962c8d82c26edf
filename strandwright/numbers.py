"""Two lines as one list of numbers, its points, and the rings of these."""

from strandwright.beads import mirrored
from strandwright.drawing import parts_of
from strandwright.joints import joint_of
from strandwright.lets import refuse_lacks


def numbers_of(ours, theirs):
    refuse_lacks([ours, theirs])
    place = {}
    for number, bead in enumerate(theirs, start=1):
        place[bead] = number
        place[mirrored(bead)] = -number
    return [0] + [place[bead] for bead in ours] + [len(ours) + 1]


def number_left(number):
    return (abs(number), 0 if number >= 0 else 1)


def number_right(number):
    return (abs(number), 1 if number >= 0 else 0)


def point_joints(numbers):
    return [joint_of((number_right(one), number_left(other))) for one, other in zip(numbers, numbers[1:])]


def point_rings(numbers):
    ours = point_joints(numbers)
    theirs = point_joints(list(range(len(numbers))))
    point_of = {}
    for point, joint in enumerate(ours):
        point_of[joint] = point
    return sorted([sorted([point_of[joint] for joint in part[1]]) for part in parts_of(ours, theirs)])
