"""The plain finder: from one thing by all deeds of a book, until the other is met; and all sets of a few names."""

from strandwright.beads import names_in
from strandwright.books import deeds, is_let_by, is_of_lines, refuse_pair
from strandwright.deeds import deeds_among, put_in_place
from strandwright.errors import TooMany
from strandwright.joints import joints_of, set_of
from strandwright.lets import has_ring, refuse_lacks
from strandwright.lines import line_behind
from strandwright.two import fewest_two

# Of how many beads the things are at the most, by each book.
MOST_BEADS = {"one": 4, "two": 4, "home": 4, "turns": 4, "changes": 5}
MOST_BEADS_ROWS = {"one": 3, "two": 3, "home": 3, "turns": 4, "changes": 5}
MOST_BEADS_AMID = 4


def refuse_more(thing, most):
    if len(names_in(thing)) > most:
        raise TooMany()


def dot_of(book, thing):
    # A set is walked over as its joints: they are equal just where two sets are the same.
    return thing if is_of_lines(book) else joints_of(thing)


def joints_behind(book, joints):
    found = [put_in_place(joints, deed) for deed in deeds_among(joints) if is_let_by(book, deed)]
    if book == "home" and has_ring(set_of(joints)):
        return [other for other in found if not has_ring(set_of(other))]
    return found


def dots_behind(book, dot):
    # One for each deed.
    if is_of_lines(book):
        return [line_behind(dot, deed) for deed in deeds(book, dot)]
    return joints_behind(book, dot)


def next_counts(book, counts, seen):
    fresh = {}
    for dot in counts:
        for other in dots_behind(book, dot):
            if other not in seen:
                fresh[other] = fresh.get(other, 0) + counts[dot]
    return fresh


def search(book, one, other):
    # The fewest deeds, and how many rows of so many there are.
    goal = dot_of(book, other)
    counts = {dot_of(book, one): 1}
    seen = dict(counts)
    fewest = 0
    while goal not in counts:
        counts = next_counts(book, counts, seen)
        seen.update(counts)
        fewest = fewest + 1
    return (fewest, counts[goal])


def plain_fewest(book, one, other):
    refuse_pair(book, one, other)
    refuse_more(one, MOST_BEADS[book])
    return search(book, one, other)[0]


def plain_rows(book, one, other):
    refuse_pair(book, one, other)
    refuse_more(one, MOST_BEADS_ROWS[book])
    return search(book, one, other)[1]


def matchings(ends):
    # All ways in which each end is alone or joined with one other.
    if len(ends) == 0:
        return [()]
    found = [((ends[0],),) + rest for rest in matchings(ends[1:])]
    for k in range(1, len(ends)):
        found.extend([((ends[0], ends[k]),) + rest for rest in matchings(ends[1:k] + ends[k + 1:])])
    return found


def all_sets(names):
    ends = []
    for name in sorted(names):
        ends.extend([(name, 0), (name, 1)])
    return sorted([set_of(joints) for joints in matchings(ends)])


def amid_two(some):
    refuse_lacks(some)
    refuse_more(some[0], MOST_BEADS_AMID)
    sums = {}
    for one in all_sets(names_in(some[0])):
        sums[one] = sum([fewest_two(one, other) for other in some])
    least = min(sums.values())
    return (least, [one for one in sums if sums[one] == least])
