"""Sets and lines as texts, written in one form and read in a looser one."""

from strandwright.beads import beads_in, is_bead, name_of
from strandwright.errors import BadText, Twice

KIND_OF = {"[": "open", "(": "ring"}
CLOSE_OF = {"[": "]", "(": ")"}


def show_strand(strand):
    beads = " ".join(strand[1])
    return f"[{beads}]" if strand[0] == "open" else f"({beads})"


def show_set(some):
    return " ".join([show_strand(strand) for strand in some])


def show_line(line):
    beads = " ".join(line)
    return f"|{beads}|"


def words_of(text, marks):
    if not isinstance(text, str):
        raise BadText()
    # Split at blanks alone: without a sign told, split would part words at tabs and their like, too.
    spaced = text.replace("\n", " ")
    for mark in marks:
        spaced = spaced.replace(mark, f" {mark} ")
    return [word for word in spaced.split(" ") if word != ""]


def beads_of(words):
    if not all([is_bead(word) for word in words]):
        raise BadText()
    return tuple(words)


def read_strand(words):
    beads = beads_of(words[1:-1])
    if words[0] not in KIND_OF or words[-1] != CLOSE_OF[words[0]] or len(beads) == 0:
        raise BadText()
    return (KIND_OF[words[0]], beads)


def strand_words(words):
    groups = []
    group = []
    for word in words:
        group.append(word)
        if word in ("]", ")"):
            groups.append(group)
            group = []
    if group != []:
        groups.append(group)
    return groups


def refuse_twice(thing):
    seen = {}
    for bead in beads_in(thing):
        name = name_of(bead)
        if name in seen:
            raise Twice(name)
        seen[name] = True


def read_set(text):
    some = tuple([read_strand(group) for group in strand_words(words_of(text, "[]()"))])
    refuse_twice(some)
    return some


def read_line(text):
    words = words_of(text, "|")
    if len(words) < 2 or words[0] != "|" or words[-1] != "|":
        raise BadText()
    line = beads_of(words[1:-1])
    refuse_twice(line)
    return line
