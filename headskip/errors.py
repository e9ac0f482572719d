"""The errors of this package, each directly below SkipError."""


class SkipError(ValueError):
    """The base of all errors of this package."""


class BadValue(SkipError):
    """A value that is no integer where one must stand."""

    def __init__(self, value):
        self.value = value


class BadName(SkipError):
    """A value that is no name where one must stand."""

    def __init__(self, value):
        self.value = value


class BadTold(SkipError):
    """A part of a column head that cannot be."""

    def __init__(self, part):
        self.part = part


class BadHead(SkipError):
    """A part of a head that cannot be."""

    def __init__(self, part):
        self.part = part


class BadFilter(SkipError):
    """A part of a filter that cannot be."""

    def __init__(self, part):
        self.part = part


class BadRow(SkipError):
    """A part of a row, or of what is asked of rows, that cannot be."""

    def __init__(self, part):
        self.part = part


class BadLots(SkipError):
    """A part of the contents of a block that cannot be."""

    def __init__(self, part):
        self.part = part


class BadShelf(SkipError):
    """A part of a shelf that cannot be."""

    def __init__(self, part):
        self.part = part


class BadTable(SkipError):
    """A block of a table that cannot be."""

    def __init__(self, at):
        self.at = at


class BadQuestion(SkipError):
    """A part of a question that cannot be."""

    def __init__(self, part):
        self.part = part


class BadRead(SkipError):
    """A read block whose contents cannot be."""

    def __init__(self, at):
        self.at = at


class BadUpkeep(SkipError):
    """A part of a rule book, or of what is asked of it, that cannot be."""

    def __init__(self, part):
        self.part = part


class BadBook(SkipError):
    """A part of a store or of a desk that cannot be."""

    def __init__(self, part):
        self.part = part


class BadText(SkipError):
    """A word of a text that cannot stand, or that is missing."""

    def __init__(self, line, word):
        self.line = line
        self.word = word


class BadLine(SkipError):
    """A word of a line that cannot stand, or that is missing."""

    def __init__(self, word):
        self.word = word


class NoName(SkipError):
    """A column that is not there."""

    def __init__(self, name):
        self.name = name


class NoBlock(SkipError):
    """A block that is not there."""

    def __init__(self, at):
        self.at = at


class NoCount(SkipError):
    """A number of matches that is not possible."""

    def __init__(self, many):
        self.many = many


class Taken(SkipError):
    """A name that is in use."""

    def __init__(self, name):
        self.name = name


class TooMany(SkipError):
    """More of something than there may be."""

    def __init__(self, what, most):
        self.what = what
        self.most = most


class NoChange(SkipError):
    """There is no change that could be taken back."""
