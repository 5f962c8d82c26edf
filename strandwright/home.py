"""The book home: all deeds, of sets without rings; of the sets come to no two one behind the other have rings."""

from strandwright.canon import same
from strandwright.deeds import done
from strandwright.errors import NotLet
from strandwright.joints import joints_of
from strandwright.lets import has_ring, refuse_lacks
from strandwright.two import fewest_two, firsts_two, step_two


def refuse_home(one, other):
    refuse_lacks([one, other])
    if has_ring(one) or has_ring(other):
        raise NotLet("home")


def fewest_home(one, other):
    refuse_home(one, other)
    return fewest_two(one, other)


def firsts_home(one, other):
    refuse_home(one, other)
    return firsts_two(one, other)


def steps_home(one, other):
    first = step_two(joints_of(one), joints_of(other))
    amid = done(one, first)
    if not has_ring(amid):
        return [first]
    # Where a first deed makes a ring, another one always takes it away at once.
    ringless = [deed for deed in firsts_two(amid, other) if not has_ring(done(amid, deed))]
    return [first, ringless[0]]


def row_home(one, other):
    refuse_home(one, other)
    row = []
    here = one
    while not same(here, other):
        steps = steps_home(here, other)
        row.extend(steps)
        for deed in steps:
            here = done(here, deed)
    return row
