"""Pieces joined to a whole, which has no names any more."""

from joinload.errors import TooFar
from joinload.laying import laid, size_of, step_of
from joinload.names import aims, names_of
from joinload.pieces import pieces_by_name
from joinload.rules import rule_of
from joinload.shelves import taken
from joinload.ways import reached


def map_of(given, shelves, entry):
    """The places of the stretches that are kept, by their keys."""
    pieces = taken(given, shelves, entry)
    return dict(laid(pieces, kept(pieces, names_of(pieces), entry)))


def joined(given, shelves, entry):
    """The whole (step, size, entry, parts, leans) of the stretches that are kept."""
    pieces = taken(given, shelves, entry)
    names = names_of(pieces)
    keys = kept(pieces, names, entry)
    joining = Joining(pieces, names, laid(pieces, keys))
    start = joining.place_of(names[entry])
    return (step_of(pieces, keys), size_of(pieces, keys), start, joining.parts, joining.leaning)


def kept(pieces, names, entry):
    """The keys of the stretches that are reached from the stretch of the entry."""
    root = names[entry]
    return [key for key, by, at in reached(pieces, names, (root[0], root[1]))]


class Joining:
    """The parts and the leans of a whole; rows are the kept stretches as they are laid out."""

    def __init__(self, pieces, names, rows):
        self.names = names
        self.places = dict(rows)
        self.parts = []
        self.leaning = []
        by_name = pieces_by_name(pieces)
        for key, place in rows:
            self.join_stretch(by_name[key[0]], key[1], place)

    def join_stretch(self, piece, number, place):
        """Adds the part of a stretch that lies at the place, and its leans."""
        stretch = piece[1][number]
        words = list(stretch[2])
        fills = stretch[3]
        for fill, aimed in zip(fills, aims(piece, self.names, fills)):
            at = fill[0]
            rule = rule_of(fill[1])
            here = place + at
            if isinstance(aimed, int):
                words[at] = rule.filled(words[at], here, aimed)
            elif rule.leans():
                self.leaning.append((here, rule.title, self.place_of(aimed)))
            elif rule.fits(here, self.place_of(aimed)):
                words[at] = rule.filled(words[at], here, self.place_of(aimed))
            else:
                raise TooFar(fill[2], piece[0], number, at)
        if words:
            self.parts.append((place, words))

    def place_of(self, aimed):
        """The place of (piece name, stretch, offset)."""
        return self.places[(aimed[0], aimed[1])] + aimed[2]
