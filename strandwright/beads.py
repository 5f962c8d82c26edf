"""Names, placed beads, strands, and the two things made of them: sets and lines."""

LETTERS = "abcdefghijklmnopqrstuvwxyz"
LONGEST_NAME = 6
STRAND_KINDS = ("open", "ring")


def is_name(thing):
    # The length goes first, so that a very long text is not walked.
    if not isinstance(thing, str) or not 1 <= len(thing) <= LONGEST_NAME:
        return False
    return all([letter in LETTERS for letter in thing])


def is_turned(bead):
    return bead.startswith("-")


def name_of(bead):
    return bead[1:] if is_turned(bead) else bead


def mirrored(bead):
    return name_of(bead) if is_turned(bead) else "-" + bead


def is_bead(thing):
    return isinstance(thing, str) and is_name(name_of(thing))


def turned_beads(beads):
    return tuple([mirrored(bead) for bead in reversed(beads)])


def turned_about(strand):
    return (strand[0], turned_beads(strand[1]))


def is_strand(thing):
    if not isinstance(thing, tuple) or len(thing) != 2:
        return False
    kind = thing[0]
    beads = thing[1]
    # Only a text is compared: what else may stand here need not bear it.
    if not isinstance(kind, str) or kind not in STRAND_KINDS:
        return False
    return isinstance(beads, tuple) and len(beads) > 0 and all([is_bead(bead) for bead in beads])


def beads_in(thing):
    beads = []
    for part in thing:
        if isinstance(part, str):
            beads.append(part)
        else:
            beads.extend(part[1])
    return beads


def names_in(thing):
    return sorted([name_of(bead) for bead in beads_in(thing)])


def names_unlike(thing):
    names = names_in(thing)
    return len(set(names)) == len(names)


def is_set(thing):
    if not isinstance(thing, tuple) or not all([is_strand(part) for part in thing]):
        return False
    return names_unlike(thing)


def is_line(thing):
    if not isinstance(thing, tuple) or not all([is_bead(part) for part in thing]):
        return False
    return names_unlike(thing)
