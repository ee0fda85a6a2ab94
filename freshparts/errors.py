"""The refusals.

Each keeps what it was made of as fields, the very things. Its message is a fixed text, so that nothing that a
refusal is made of has to be looked at, however great or strange it is.
"""


class FreshError(ValueError):
    """Any refusal."""

    def __init__(self, text):
        ValueError.__init__(self, text)


class NoRatio(FreshError):
    """Nothing is divided by nought."""

    def __init__(self):
        FreshError.__init__(self, "nothing is divided by nought")


class NoAge(FreshError):
    """No part comes to this age."""

    def __init__(self, age):
        FreshError.__init__(self, "no part comes to this age")
        self.age = age


class NoBeat(FreshError):
    """The beat comes too early."""

    def __init__(self, beat):
        FreshError.__init__(self, "this beat comes too early")
        self.beat = beat


class NoPaper(FreshError):
    """The thing is no such paper."""

    def __init__(self, word, place):
        FreshError.__init__(self, "this is no such paper")
        self.word = word
        self.place = place


class TooMany(FreshError):
    """What was made is too great to be kept."""

    def __init__(self, word):
        FreshError.__init__(self, "this is too great to be kept")
        self.word = word


class NoText(FreshError):
    """The text can't be read from one of its words on."""

    def __init__(self, at):
        FreshError.__init__(self, "this text can't be read")
        self.at = at


class NoLines(FreshError):
    """The lines can't be read from a word of one of them on."""

    def __init__(self, row, word):
        FreshError.__init__(self, "these lines can't be read")
        self.row = row
        self.word = word


class NoName(FreshError):
    """Nothing is kept by this name."""

    def __init__(self, name):
        FreshError.__init__(self, "nothing is kept by this name")
        self.name = name


class NoRow(FreshError):
    """The desk knows no such row."""

    def __init__(self, row):
        FreshError.__init__(self, "the desk knows no such row")
        self.row = row
