"""The refusals: one class for each, and none under another but CiteError."""


class CiteError(ValueError):
    pass


class NoHands(CiteError):
    pass


class Ring(CiteError):

    def __init__(self, ring):
        # A copy: the error tells the same when the maker's list is changed later.
        self.ring = list(ring)


class NoStyle(CiteError):
    pass


class NoText(CiteError):
    pass


class NoWork(CiteError):

    def __init__(self, key):
        self.key = key


class NoList(CiteError):

    def __init__(self, row):
        self.row = row


class NoName(CiteError):
    pass


class NoNumber(CiteError):
    pass


class NoPlain(CiteError):
    pass


class NoRow(CiteError):
    pass
