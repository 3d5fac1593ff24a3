"""The refusals, one class for each."""


class JoinError(ValueError):
    """Any refusal."""


class NoRule(JoinError):
    """A text that is no title of a rule."""


class NoPiece(JoinError):
    """A text that writes no piece; row is its first row that cannot stand, counted from 1."""

    def __init__(self, row):
        JoinError.__init__(self, f"row {row} cannot stand in a piece")
        self.row = row


class Twice(JoinError):
    """A name that the pieces called one and other both tell strongly."""

    def __init__(self, name, one, other):
        JoinError.__init__(self, f"{name!r} is told by {one!r} and by {other!r}")
        self.name = name
        self.one = one
        self.other = other


class SameName(JoinError):
    """Two pieces that have the same name."""

    def __init__(self, name):
        JoinError.__init__(self, f"two pieces are called {name!r}")
        self.name = name


class Unmet(JoinError):
    """A name that nobody tells; piece is the one that wants it, empty for the entry."""

    def __init__(self, name, piece):
        JoinError.__init__(self, f"{name!r} is told by no piece, wanted by {piece!r}")
        self.name = name
        self.piece = piece


class TooFar(JoinError):
    """A word, number at of a stretch of a piece, whose rule does not reach the wanted name."""

    def __init__(self, name, piece, stretch, at):
        JoinError.__init__(self, f"{name!r} is too far from word {at} of stretch {stretch} of {piece!r}")
        self.name = name
        self.piece = piece
        self.stretch = stretch
        self.at = at


class NoWhole(JoinError):
    """A text that writes no whole; row is its first row that cannot stand, counted from 1."""

    def __init__(self, row):
        JoinError.__init__(self, f"row {row} cannot stand in a whole")
        self.row = row


class NoBase(JoinError):
    """A base at which the whole does not fit."""

    def __init__(self, base):
        JoinError.__init__(self, f"the whole does not fit at {base}")
        self.base = base


class Lost(JoinError):
    """A place without a word, met by the machine over words."""

    def __init__(self, place):
        JoinError.__init__(self, f"no word at {place}")
        self.place = place


class NoSense(JoinError):
    """A step that means nothing to the machine by names."""
