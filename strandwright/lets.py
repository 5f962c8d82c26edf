"""What is refused ahead of all else: things whose beads are unlike."""

from strandwright.beads import names_in
from strandwright.errors import Lacks


def refuse_lacks(things):
    count = {}
    for thing in things:
        for name in names_in(thing):
            count[name] = count.get(name, 0) + 1
    lacked = [name for name in sorted(count) if count[name] < len(things)]
    if lacked:
        raise Lacks(lacked[0])
