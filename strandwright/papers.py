"""Papers: by the parts in one it is seen that no row is shorter than the row in it."""

from strandwright.books import canon_by, refuse_pair, row, walk
from strandwright.drawing import drawing, sum_of
from strandwright.errors import NoDeed, NoPaper
from strandwright.joints import joints_of
from strandwright.knots import cover, knots_of
from strandwright.lets import is_whole
from strandwright.numbers import numbers_of, point_rings
from strandwright.one import pairs_apart


def parts_by_one(one, other):
    apart = pairs_apart(joints_of(one), joints_of(other))
    return (tuple(apart[0]), tuple(apart[1]))


def rings_in(numbers):
    return tuple([tuple(ring) for ring in point_rings(numbers)])


def parts_by(book, one, other):
    if book == "one":
        return parts_by_one(one, other)
    if book in ("two", "home"):
        return tuple(drawing(one, other))
    numbers = numbers_of(one, other)
    if book == "changes":
        return (rings_in(numbers),)
    return (rings_in(numbers), tuple(knots_of(numbers)), cover(numbers))


def points_less_rings(rings):
    return sum([len(ring) for ring in rings]) - len(rings)


def sum_by(book, parts):
    if book == "one":
        return len(parts[0]) + len(parts[1])
    if book in ("two", "home"):
        return sum_of(parts)
    if book == "changes":
        return points_less_rings(parts[0]) // 2
    return points_less_rings(parts[0]) + parts[2]


def paper(book, one, other):
    refuse_pair(book, one, other)
    parts = parts_by(book, one, other)
    return (parts, sum_by(book, parts), tuple(row(book, one, other)))


def is_just(thing, told):
    # Equal, and of the same kinds throughout: Python holds True and 1 to be equal.
    if isinstance(told, tuple):
        if not isinstance(thing, tuple) or len(thing) != len(told):
            return False
        return all([is_just(part, told_part) for part, told_part in zip(thing, told)])
    if isinstance(told, int):
        return is_whole(thing) and thing == told
    return isinstance(thing, str) and thing == told


def is_row(thing, book, one, other, many):
    if not isinstance(thing, tuple) or len(thing) != many:
        return False
    try:
        things = walk(book, one, thing)
    except NoDeed:
        return False
    return things[-1] == canon_by(book, other)


def look(book, one, other, paper):
    refuse_pair(book, one, other)
    parts = parts_by(book, one, other)
    if not isinstance(paper, tuple) or len(paper) != 3 or not is_just(paper[0], parts):
        raise NoPaper("parts")
    if not is_just(paper[1], sum_by(book, parts)):
        raise NoPaper("sum")
    if not is_row(paper[2], book, one, other, paper[1]):
        raise NoPaper("row")
    return True
