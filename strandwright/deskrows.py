"""The rows that a desk is told, parted in their words."""

from strandwright.books import BOOKS
from strandwright.errors import NoRow

# How many names stand in each row; in that of amid, other than in these, it hangs on the book.
NAMES = {"keep": 1, "fewest": 2, "row": 2, "firsts": 2, "rows": 2, "do": 1, "paper": 2, "look": 2, "show": 1}
BOOKLESS = ("keep", "show")
TEXT_BEHIND = ("keep", "do", "look")
# These words, and the books that they are for.
OF_FEW_BOOKS = ("rows", "amid")
FEW_BOOKS = ("one", "two")
MOST_AMID_TWO = 5


class DeskRow:
    def __init__(self, word, book, names, text):
        self.word = word
        self.book = book
        self.names = names
        self.text = text


def words_ahead(word):
    # How many words a row has ahead of its first name.
    return 1 if word in BOOKLESS else 2


def parted(row, word):
    # The words of the row, and the text behind them.
    if word not in TEXT_BEHIND:
        return (row.split(" "), "")
    words = row.split(" ", words_ahead(word) + NAMES[word])
    return (words[:-1], words[-1])


def book_in(words):
    if words[0] in BOOKLESS:
        return ""
    let = FEW_BOOKS if words[0] in OF_FEW_BOOKS else BOOKS
    if len(words) < 2 or words[1] not in let:
        raise NoRow()
    return words[1]


def is_count_let(word, book, count):
    if word != "amid":
        return count == NAMES[word]
    return count % 2 == 1 if book == "one" else 1 <= count <= MOST_AMID_TWO


def read_desk_row(row):
    if not isinstance(row, str):
        raise NoRow()
    word = row.split(" ")[0]
    if word != "amid" and word not in NAMES:
        raise NoRow()
    both = parted(row, word)
    words = both[0]
    if len(words) == 0 or "" in words:
        raise NoRow()
    book = book_in(words)
    names = words[words_ahead(word):]
    if not is_count_let(word, book, len(names)):
        raise NoRow()
    return DeskRow(word, book, names, both[1])
