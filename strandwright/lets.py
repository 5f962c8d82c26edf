"""What is asked ahead of all else: whether things have the same beads, whether a set has a ring, what is a number."""

from strandwright.beads import names_in
from strandwright.errors import Lacks


def is_whole(thing):
    return isinstance(thing, int) and not isinstance(thing, bool)


def refuse_lacks(things):
    count = {}
    for thing in things:
        for name in names_in(thing):
            count[name] = count.get(name, 0) + 1
    lacked = [name for name in sorted(count) if count[name] < len(things)]
    if lacked:
        raise Lacks(lacked[0])


def has_ring(some):
    return any([strand[0] == "ring" for strand in some])
