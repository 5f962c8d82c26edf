"""Papers as texts, read as they are written."""

from strandwright.books import BOOKS, refuse_no_book
from strandwright.deedtexts import read_deed, read_joints, read_number, read_sides, show_deed, show_joint
from strandwright.errors import BadText

PAPER_FIGURES = 4
PART_KINDS = ("ring", "odd", "ours", "theirs")


def show_words(word, words):
    return " ".join([word] + words)


def show_pairs(word, joints):
    return show_words(word, [show_joint(joint) for joint in joints])


def show_part(part):
    theirs = show_pairs("/", part[2])
    ours = show_pairs(part[0], part[1])
    return f"{ours} {theirs}"


def show_ring(ring):
    return show_words("ring", [str(point) for point in ring])


def show_span(span):
    return "-".join([str(place) for place in span])


def show_parts(book, parts):
    # A row each.
    if book == "one":
        return [show_pairs("cuts", parts[0]), show_pairs("joins", parts[1])]
    if book in ("two", "home"):
        return [show_part(part) for part in parts]
    rings = [show_ring(ring) for ring in parts[0]]
    if book == "changes":
        return rings
    knots = show_words("knots", [show_span(span) for span in parts[1]])
    return rings + [knots, show_words("cover", [str(parts[2])])]


def show_paper(book, paper):
    refuse_no_book(book)
    head = show_words(book, [str(paper[1])])
    rows = [head] + show_parts(book, paper[0]) + ["row"] + [show_deed(deed) for deed in paper[2]]
    return "\n".join(rows)


def read_figures(word):
    return read_number(word, PAPER_FIGURES)


def words_behind(word, row):
    words = row.split(" ")
    if words[0] != word:
        raise BadText()
    return words[1:]


def read_pairs(word, row):
    return read_joints(words_behind(word, row))


def read_part(row):
    words = row.split(" ")
    sides = read_sides(words[1:], "/")
    if words[0] not in PART_KINDS or len(sides[0]) == 0 or len(sides[1]) == 0:
        raise BadText()
    return (words[0],) + sides


def read_ring(row):
    ring = tuple([read_figures(word) for word in words_behind("ring", row)])
    if len(ring) == 0:
        raise BadText()
    return ring


def read_span(word):
    span = tuple([read_figures(figures) for figures in word.split("-")])
    if len(span) != 2:
        raise BadText()
    return span


def read_cover(row):
    words = words_behind("cover", row)
    if len(words) != 1:
        raise BadText()
    return read_figures(words[0])


def read_parts_one(rows):
    if len(rows) != 2:
        raise BadText()
    return (read_pairs("cuts", rows[0]), read_pairs("joins", rows[1]))


def read_parts_turns(rows):
    if len(rows) < 2:
        raise BadText()
    knots = tuple([read_span(word) for word in words_behind("knots", rows[-2])])
    return (read_rings(rows[:-2]), knots, read_cover(rows[-1]))


def read_rings(rows):
    return tuple([read_ring(row) for row in rows])


def read_parts(book, rows):
    if book == "one":
        return read_parts_one(rows)
    if book == "turns":
        return read_parts_turns(rows)
    if book == "changes":
        return (read_rings(rows),)
    return tuple([read_part(row) for row in rows])


def read_paper(text):
    if not isinstance(text, str):
        raise BadText()
    rows = text.split("\n")
    head = rows[0].split(" ")
    if len(head) != 2 or head[0] not in BOOKS or "row" not in rows:
        raise BadText()
    # No row of parts is this word alone, so the first such row is the one that the deeds follow.
    middle = rows.index("row")
    parts = read_parts(head[0], rows[1:middle])
    deeds = tuple([read_deed(row) for row in rows[middle + 1:]])
    return (head[0], (parts, read_figures(head[1]), deeds))
