"""The errors of the package; each one but NothingDone has a single field."""


class LatewordsError(ValueError):
    """The base of the errors that tell of a bad value."""


class BadSetting(LatewordsError):
    """A value of a policy or of a setting is bad; name is the parameter."""

    def __init__(self, name):
        self.name = name


class BadWrite(LatewordsError):
    """A conversation is none; index is the first bad item, or None."""

    def __init__(self, index):
        self.index = index


class BadOrder(LatewordsError):
    """An order is none for its conversation; index is the first bad item, or None."""

    def __init__(self, index):
        self.index = index


class NotPossible(LatewordsError):
    """An event is not possible now."""

    def __init__(self, event):
        self.event = event


class TooLong(LatewordsError):
    """Something is above its bound; many is how much it is."""

    def __init__(self, many):
        self.many = many


class BadTalk(LatewordsError):
    """A talk is none; index is the first bad edge, or None."""

    def __init__(self, index):
        self.index = index


class EndlessTurn(LatewordsError):
    """The edges of one endpoint alone form a cycle."""

    def __init__(self, endpoint):
        self.endpoint = endpoint


class BadPath(LatewordsError):
    """A path is none in its talk; index is the first bad item, or None."""

    def __init__(self, index):
        self.index = index


class BadText(LatewordsError):
    """A text cannot be read; line is the first wrong line, or None."""

    def __init__(self, line):
        self.line = line


class BadRow(LatewordsError):
    """A row of the desk cannot be read; column is the first wrong word, or None."""

    def __init__(self, column):
        self.column = column


class NoTurn(IndexError):
    """A conversation has no such turn."""

    def __init__(self, turn):
        self.turn = turn


class NoArc(LookupError):
    """A turn graph has no such arc."""

    def __init__(self, arc):
        self.arc = arc


class NoName(KeyError):
    """Nothing of the kind that is asked for stands under a name."""

    def __init__(self, name):
        self.name = name


class NothingDone(RuntimeError):
    """There is nothing to take back."""
