"""What a desk answers: texts of things that are read, kept and shown, and of what the books tell of them."""

from strandwright.books import fewest, firsts, is_of_lines, row
from strandwright.canon import canon
from strandwright.deedtexts import read_row, show_row
from strandwright.errors import BadText, NoKind, NoPaper
from strandwright.one import amid_one, rows_one
from strandwright.papers import look, paper
from strandwright.papertexts import read_paper, show_paper
from strandwright.plain import amid_two
from strandwright.texts import read_line, read_set, show_line, show_set
from strandwright.two import rows_two


def read_kept(text):
    # A pair of a word and the thing: an empty set and an empty line are equal.
    if text.startswith("|"):
        return ("line", read_line(text))
    return ("set", canon(read_set(text)))


def show_kept(kept):
    return show_line(kept[1]) if kept[0] == "line" else show_set(kept[1])


def refuse_kinds(book, pairs):
    wanted = "line" if is_of_lines(book) else "set"
    if not all([pair[0] == wanted for pair in pairs]):
        raise NoKind()


def in_one_row(text):
    return text.replace("\n", ";")


def read_one_deed(text):
    deeds = read_row(text)
    if len(deeds) != 1:
        raise BadText()
    return deeds[0]


def tell_row(book, one, other):
    text = in_one_row(show_row(row(book, one, other)))
    return "none" if text == "" else text


def tell_rows(book, one, other):
    return str(rows_one(one, other) if book == "one" else rows_two(one, other))


def tell_paper(book, one, other):
    return in_one_row(show_paper(book, paper(book, one, other)))


def read_told_paper(text):
    if "\n" in text:
        raise BadText()
    return read_paper(text.replace(";", "\n"))


def tell_look(book, one, other, text):
    told = read_told_paper(text)
    # Of another book, it is handed on as what has no parts at all.
    handed = told[1] if told[0] == book else ()
    try:
        look(book, one, other, handed)
    except NoPaper as e:
        word = e.word
        return f"wrong {word}"
    return "right"


def tell_amid(book, some):
    if book == "one":
        return show_set(amid_one(some))
    told = amid_two(some)
    least = told[0]
    text = show_set(told[1][0])
    return f"{least} {text}"


def tell(word, book, things):
    if word == "amid":
        return tell_amid(book, things)
    one = things[0]
    other = things[1]
    if word == "fewest":
        return str(fewest(book, one, other))
    if word == "firsts":
        return str(len(firsts(book, one, other)))
    if word == "row":
        return tell_row(book, one, other)
    if word == "rows":
        return tell_rows(book, one, other)
    return tell_paper(book, one, other)
