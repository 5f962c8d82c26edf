"""Turns and changes of lines, and the two books of them."""

from strandwright.beads import turned_beads
from strandwright.errors import NoDeed, NotLet
from strandwright.knots import sum_of_turns
from strandwright.lets import is_whole
from strandwright.numbers import numbers_of, point_rings

# Of each book the word of its deeds, and of how many parts one is made.
FORMS = {"turns": ("turn", 3), "changes": ("change", 5)}


def turn(line, i, j):
    if not 0 <= i < j <= len(line):
        raise NoDeed()
    return line[:i] + turned_beads(line[i:j]) + line[j:]


def change(line, i, j, k, l):
    if not 0 <= i < j <= k < l <= len(line):
        raise NoDeed()
    return line[:i] + line[k:l] + line[j:k] + line[i:j] + line[l:]


def runs_of(line):
    # From which number on, and up to which, the runs of beads stand.
    runs = []
    for begin in range(len(line)):
        runs.extend([(begin, end) for end in range(begin + 1, len(line) + 1)])
    return runs


def turns_from(line):
    return [("turn",) + run for run in runs_of(line)]


def changes_from(line):
    runs = runs_of(line)
    found = []
    for run in runs:
        found.extend([("change",) + run + other for other in runs if run[1] <= other[0]])
    return found


def is_line_deed(book, thing):
    form = FORMS[book]
    if not isinstance(thing, tuple) or len(thing) != form[1] or not isinstance(thing[0], str):
        return False
    return thing[0] == form[0] and all([is_whole(number) for number in thing[1:]])


def line_behind(line, deed):
    if deed[0] == "turn":
        return turn(line, deed[1], deed[2])
    return change(line, deed[1], deed[2], deed[3], deed[4])


def fewest_turns(ours, theirs):
    return sum_of_turns(numbers_of(ours, theirs))


def refuse_changes(ours, theirs):
    # A number below 0 is that of a bead turned in one alone.
    if min(numbers_of(ours, theirs)) < 0:
        raise NotLet("changes")


def fewest_changes(ours, theirs):
    refuse_changes(ours, theirs)
    numbers = numbers_of(ours, theirs)
    return (len(numbers) - 1 - len(point_rings(numbers))) // 2


def falling(ours, theirs, deeds, fewest):
    here = fewest(ours, theirs)
    return [deed for deed in deeds if fewest(line_behind(ours, deed), theirs) < here]


def firsts_turns(ours, theirs):
    return falling(ours, theirs, turns_from(ours), fewest_turns)


def firsts_changes(ours, theirs):
    return falling(ours, theirs, changes_from(ours), fewest_changes)


def row_by(ours, theirs, deeds_of, fewest):
    row = []
    here = ours
    while here != theirs:
        deed = falling(here, theirs, deeds_of(here), fewest)[0]
        row.append(deed)
        here = line_behind(here, deed)
    return row


def row_turns(ours, theirs):
    return row_by(ours, theirs, turns_from, fewest_turns)


def row_changes(ours, theirs):
    return row_by(ours, theirs, changes_from, fewest_changes)
