"""The five books, asked alike: fewest deeds, first deeds, rows, all deeds, and what stands behind them."""

from strandwright.canon import canon
from strandwright.deeds import deeds_from, done, is_cut_or_join, is_deed
from strandwright.errors import NoDeed, NoName, NotLet
from strandwright.home import fewest_home, firsts_home, refuse_home, row_home
from strandwright.lets import has_ring, refuse_lacks
from strandwright.lines import changes_from, fewest_changes, fewest_turns, firsts_changes, firsts_turns, is_line_deed
from strandwright.lines import line_behind, refuse_changes, row_changes, row_turns, turns_from
from strandwright.one import fewest_one, firsts_one, row_one
from strandwright.two import fewest_two, firsts_two, row_two

BOOKS = ("one", "two", "home", "turns", "changes")
LINE_BOOKS = ("turns", "changes")


def refuse_no_book(book):
    if book not in BOOKS:
        raise NoName(book)


def is_of_lines(book):
    return book in LINE_BOOKS


def refuse_pair(book, one, other):
    # What each book asks of two things ahead of all else.
    refuse_no_book(book)
    if book == "home":
        refuse_home(one, other)
    elif book == "changes":
        refuse_changes(one, other)
    else:
        refuse_lacks([one, other])


def canon_by(book, thing):
    return thing if is_of_lines(book) else canon(thing)


def functions_of(book):
    # Of each book its own fewest, first deeds and row.
    functions = {
        "one": (fewest_one, firsts_one, row_one),
        "two": (fewest_two, firsts_two, row_two),
        "home": (fewest_home, firsts_home, row_home),
        "turns": (fewest_turns, firsts_turns, row_turns),
        "changes": (fewest_changes, firsts_changes, row_changes),
    }
    refuse_no_book(book)
    return functions[book]


def fewest(book, one, other):
    ask = functions_of(book)[0]
    return ask(one, other)


def firsts(book, one, other):
    ask = functions_of(book)[1]
    return ask(one, other)


def row(book, one, other):
    ask = functions_of(book)[2]
    return ask(one, other)


def deeds(book, thing):
    refuse_no_book(book)
    if book == "turns":
        return turns_from(thing)
    if book == "changes":
        return changes_from(thing)
    return [deed for deed in deeds_from(thing) if is_let_by(book, deed)]


def is_let_by(book, deed):
    return book != "one" or is_cut_or_join(deed)


def behind(book, thing, deed):
    refuse_no_book(book)
    if is_of_lines(book):
        if not is_line_deed(book, deed):
            raise NoDeed()
        return line_behind(thing, deed)
    if not is_deed(deed) or not is_let_by(book, deed):
        raise NoDeed()
    return done(thing, deed)


def step(book, thing, deed, at):
    try:
        other = behind(book, thing, deed)
    except NoDeed:
        raise NoDeed(at) from None
    if book == "home" and has_ring(thing) and has_ring(other):
        raise NoDeed(at)
    return other


def walk(book, thing, row):
    refuse_no_book(book)
    if book == "home" and has_ring(thing):
        raise NotLet(book)
    things = [canon_by(book, thing)]
    for at, deed in enumerate(row):
        things.append(step(book, things[-1], deed, at))
    return things
