"""Kinds of a deed: which parts of the drawing it takes apart, which it makes, and by how much the sum falls."""

from strandwright.deeds import put_in_place, refuse_undoable
from strandwright.drawing import drawing, kinds_in, parts_of, twice_saved
from strandwright.joints import joints_of

# To the kinds ahead all that may be behind, with the fall.
TABLE = {
    ("ring",): ((("ours",), -1), (("ring",), 0), (("ring", "ring"), 1)),
    ("odd",): ((("odd",), 0), (("odd", "ours"), 0), (("odd", "ring"), 1)),
    ("ours",): ((("ours",), 0), (("ours", "ours"), 0), (("ring",), 1), (("ours", "ring"), 1)),
    ("theirs",): ((("theirs",), 0), (("ring", "theirs"), 1), (("odd", "odd"), 1)),
    ("ring", "ring"): ((("ring",), -1),),
    ("odd", "ring"): ((("odd",), -1),),
    ("ours", "ring"): ((("ours",), -1),),
    ("ring", "theirs"): ((("theirs",), -1),),
    ("odd", "odd"): ((("theirs",), -1), (("ours", "theirs"), -1), (("odd", "odd"), 0)),
    ("odd", "ours"): ((("odd",), 0), (("odd", "ours"), 0)),
    ("odd", "theirs"): ((("odd", "theirs"), 0),),
    ("ours", "ours"): ((("ours",), 0), (("ours", "ours"), 0)),
    ("theirs", "theirs"): ((("theirs", "theirs"), 0),),
    ("ours", "theirs"): ((("odd", "odd"), 1),),
}


def may_be(ahead):
    return sorted(TABLE.get(ahead, ()))


def joints_in(parts, side):
    joints = []
    for part in parts:
        joints.extend(part[side])
    return joints


def kinds_by(parts, deed):
    # The deed leaves all other parts as they are, so it is enough to draw anew those that it takes apart.
    ahead = [part for part in parts if any([joint in part[1] for joint in deed[0]])]
    behind = parts_of(put_in_place(joints_in(ahead, 1), deed), joints_in(ahead, 2))
    fall = (twice_saved(behind) - twice_saved(ahead)) // 2
    return (kinds_in(ahead), kinds_in(behind), fall)


def kinds_of(one, other, deed):
    parts = drawing(one, other)
    refuse_undoable(joints_of(one), deed)
    return kinds_by(parts, deed)
