"""The refusals: one class for each, with what is refused as its fields."""


class StrandError(ValueError):
    # Nothing of its own: it is there so that any refusal can be taken by one name.
    pass


class BadText(StrandError):
    def __init__(self):
        StrandError.__init__(self)


class Twice(StrandError):
    def __init__(self, name):
        StrandError.__init__(self, name)
        self.name = name


class Lacks(StrandError):
    def __init__(self, name):
        StrandError.__init__(self, name)
        self.name = name


class NoDeed(StrandError):
    def __init__(self, at=None):
        StrandError.__init__(self, at)
        self.at = at


class NotLet(StrandError):
    def __init__(self, book):
        StrandError.__init__(self, book)
        self.book = book


class NoName(StrandError):
    def __init__(self, name):
        StrandError.__init__(self, name)
        self.name = name


class Mixed(StrandError):
    def __init__(self):
        StrandError.__init__(self)


class TooMany(StrandError):
    def __init__(self):
        StrandError.__init__(self)


class NoPaper(StrandError):
    def __init__(self, word):
        StrandError.__init__(self, word)
        self.word = word


class NoKind(StrandError):
    def __init__(self):
        StrandError.__init__(self)


class NoRow(StrandError):
    def __init__(self):
        StrandError.__init__(self)
