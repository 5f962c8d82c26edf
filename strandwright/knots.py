"""Knots among the whole spans of numbers, the tree in which they hang, its cover, and the sum by turns."""

from strandwright.numbers import point_rings
from strandwright.spans import own_points, whole_spans, within


def is_at_rest(numbers, point):
    return numbers[point + 1] == numbers[point] + 1


def one_sided(numbers, points):
    # Either no number at these points is below 0, or all are.
    below = []
    for point in points:
        below.extend([numbers[point] < 0, numbers[point + 1] < 0])
    return all(below) or not any(below)


def is_knot(numbers, points):
    return not all([is_at_rest(numbers, point) for point in points]) and one_sided(numbers, points)


def knots_of(numbers):
    own = own_points(numbers)
    return [span for span in sorted(own) if is_knot(numbers, own[span])]


def chains_of(wholes):
    # At one place at most one whole span begins, and at most one ends.
    from_place = {}
    for span in wholes:
        from_place[span[0]] = span
    ends = [span[1] for span in wholes]
    return [chain_from(span, from_place) for span in wholes if span[0] not in ends]


def chain_from(span, from_place):
    chain = [span]
    while chain[-1][1] in from_place:
        chain.append(from_place[chain[-1][1]])
    return tuple(chain)


def round_chain(chain, wholes):
    # A list of the least whole span round the chain, or of none.
    reach = (chain[0][0], chain[-1][1])
    outer = [span for span in wholes if within(reach, span)]
    return sorted(outer, key=lambda span: span[1] - span[0])[:1]


def tree_of(wholes):
    # The dots are the spans and the chains themselves; to each the dots with which it is tied.
    ties = {}
    for chain in chains_of(wholes):
        for span in list(chain) + round_chain(chain, wholes):
            ties.setdefault(chain, []).append(span)
            ties.setdefault(span, []).append(chain)
    return ties


def without_dot(ties, gone):
    left = {}
    for dot in ties:
        if dot != gone:
            left[dot] = [other for other in ties[dot] if other != gone]
    return left


def leaves_of(ties):
    return [dot for dot in ties if len(ties[dot]) <= 1]


def pruned(ties, knots):
    idle = [dot for dot in leaves_of(ties) if dot not in knots]
    while idle:
        ties = without_dot(ties, idle[0])
        idle = [dot for dot in leaves_of(ties) if dot not in knots]
    return ties


def branch_from(leaf, ties):
    branch = []
    here = leaf
    while len(ties[here]) < 3:
        branch.append(here)
        here = [dot for dot in ties[here] if dot not in branch][0]
    return branch


def is_long(branch, knots):
    return len([dot for dot in branch if dot in knots]) >= 2


def cover(numbers):
    knots = knots_of(numbers)
    ties = pruned(tree_of(whole_spans(numbers)), knots)
    leaves = leaves_of(ties)
    count = len(leaves)
    # With three leaves or more each branch ends at a dot of three ties or more.
    if count >= 3 and count % 2 == 1 and all([is_long(branch_from(leaf, ties), knots) for leaf in leaves]):
        return count + 1
    return count


def sum_of_turns(numbers):
    return len(numbers) - 1 - len(point_rings(numbers)) + cover(numbers)
