"""The rules by which a word is filled for a place."""

from joinload.bits import with_field, wrapped
from joinload.deeds import n_of, near_of, s_of, split_of
from joinload.errors import NoRule


def rule_of(title):
    """The rule that is known by this title."""
    if title == "whole":
        return Whole(title)
    if title == "high":
        return High(title)
    if title == "low":
        return Low(title)
    if title == "near":
        return Near(title)
    if title == "split":
        return Split(title)
    raise NoRule(f"no rule is called {title!r}")


class Rule:
    """A rule of filling; unless a class under it says otherwise, it fits everywhere and leans."""

    def __init__(self, title):
        self.title = title

    def fits(self, here, there):
        """Whether a word at here can be filled for there."""
        return True

    def filled(self, word, here, there):
        """The word, standing at here, filled for there."""
        raise NotImplementedError(self.title)

    def read_back(self, word, here):
        """The place, or its part, that a word at here was filled for."""
        raise NotImplementedError(self.title)

    def leans(self):
        """Whether the filled word hangs on the place at which all is loaded."""
        return True


class Whole(Rule):
    """The place in all 32 bits."""

    def filled(self, word, here, there):
        return wrapped(there)

    def read_back(self, word, here):
        return word


class High(Rule):
    """The upper half of the place in the lowest sixteen bits."""

    def filled(self, word, here, there):
        # Low is read as signed, so the upper half is rounded for the two to add up to the place.
        return with_field(word, 0, 16, (there + 32768) // 65536)

    def read_back(self, word, here):
        return 65536 * n_of(word)


class Low(Rule):
    """The lower half of the place in the lowest sixteen bits."""

    def filled(self, word, here, there):
        return with_field(word, 0, 16, there)

    def read_back(self, word, here):
        return s_of(word)


class Near(Rule):
    """The way in the lowest nineteen bits."""

    def fits(self, here, there):
        return -262144 <= way(here, there) <= 262143

    def filled(self, word, here, there):
        return with_field(word, 0, 19, way(here, there))

    def read_back(self, word, here):
        return here + 1 + near_of(word)

    def leans(self):
        return False


class Split(Rule):
    """The way in twelve bits, seven and five that lie apart."""

    def fits(self, here, there):
        return -2048 <= way(here, there) <= 2047

    def filled(self, word, here, there):
        lower = with_field(word, 0, 7, way(here, there))
        return with_field(lower, 14, 5, way(here, there) // 128)

    def read_back(self, word, here):
        return here + 1 + split_of(word)

    def leans(self):
        return False


def way(here, there):
    """How far there lies from the word behind here."""
    return there - here - 1
