"""A desk: it keeps sets and lines by names, and answers rows of words about them."""

from strandwright.answers import read_kept, read_one_deed, refuse_kinds, show_kept, tell, tell_look
from strandwright.beads import is_name
from strandwright.books import behind
from strandwright.deskrows import read_desk_row
from strandwright.errors import NoName


class Desk:
    def __init__(self):
        self.kept = {}

    def say(self, row):
        asked = read_desk_row(row)
        if asked.word == "keep":
            return self.keep(asked)
        pairs = [self.pair_of(name) for name in asked.names]
        if asked.word == "show":
            return show_kept(pairs[0])
        refuse_kinds(asked.book, pairs)
        things = [pair[1] for pair in pairs]
        if asked.word == "do":
            return self.do_deed(asked, things[0])
        if asked.word == "look":
            return tell_look(asked.book, things[0], things[1], asked.text)
        return tell(asked.word, asked.book, things)

    def pair_of(self, name):
        if name not in self.kept:
            raise NoName(name)
        return self.kept[name]

    def keep(self, asked):
        name = asked.names[0]
        if not is_name(name):
            raise NoName(name)
        self.kept[name] = read_kept(asked.text)
        return "ok"

    def do_deed(self, asked, thing):
        name = asked.names[0]
        other = behind(asked.book, thing, read_one_deed(asked.text))
        self.kept[name] = (self.kept[name][0], other)
        return show_kept(self.kept[name])
