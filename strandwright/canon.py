"""The one form of all sets that are the same, and sets and lines with other names."""

from strandwright.beads import is_turned, mirrored, name_of, turned_beads


def canon_open(beads):
    if len(beads) == 1:
        return (name_of(beads[0]),)
    if name_of(beads[0]) < name_of(beads[-1]):
        return tuple(beads)
    return turned_beads(beads)


def first_place(beads):
    names = [name_of(bead) for bead in beads]
    return names.index(min(names))


def canon_ring(beads):
    # Looked at from the other side, where its first name would stand turned.
    side = turned_beads(beads) if is_turned(beads[first_place(beads)]) else tuple(beads)
    begin = first_place(side)
    return side[begin:] + side[:begin]


def canon_strand(strand):
    if strand[0] == "open":
        return ("open", canon_open(strand[1]))
    return ("ring", canon_ring(strand[1]))


def strand_rank(strand):
    # By the bare name: a first bead of an open strand may be turned, and "-" would put it ahead.
    return (strand[0] == "ring", name_of(strand[1][0]))


def canon(some):
    return tuple(sorted([canon_strand(strand) for strand in some], key=strand_rank))


def same(one, other):
    return canon(one) == canon(other)


def renamed_bead(bead, names):
    told = names[name_of(bead)]
    return mirrored(told) if is_turned(bead) else told


def renamed_beads(beads, names):
    return tuple([renamed_bead(bead, names) for bead in beads])


def renamed_part(part, names):
    if isinstance(part, str):
        return renamed_bead(part, names)
    return (part[0], renamed_beads(part[1], names))


def renamed(thing, names):
    return tuple([renamed_part(part, names) for part in thing])
