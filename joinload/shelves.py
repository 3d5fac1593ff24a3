"""Pieces taken from shelves for the names that are wanted."""

from joinload.errors import SameName, Unmet
from joinload.names import tells, wants
from joinload.pieces import copied_piece


def taken(given, shelves, entry):
    """The given pieces and those taken for the names that are wanted, sorted by their names."""
    taking = Taking(given, shelves, entry)
    ordered = sorted(taking.pieces, key=lambda piece: piece[0])
    return [copied_piece(piece) for piece in ordered]


def reasons(given, shelves, entry):
    """For each piece that was taken from a shelf (piece, name, by): the wanted name, and the piece that wants it."""
    return Taking(given, shelves, entry).reasons


class Taking:
    """The pieces that are taken, and why."""

    def __init__(self, given, shelves, entry):
        on_shelves = pieces_on(shelves)
        refuse_same_name(given + on_shelves)
        self.pieces = list(given)
        self.reasons = []
        self.told_by_given = first_tellers(given)
        self.on_shelves = first_tellers(on_shelves)
        self.from_shelves = {}
        # Gathered, not refused on the spot: what is taken later may want a lesser name.
        self.unmet = {}
        self.take_for(entry, "")
        self.take_for_pieces()
        if self.unmet:
            least = min(self.unmet)
            raise Unmet(least, self.unmet[least])

    def take_for_pieces(self):
        """Takes what the taken pieces want, those too that are taken in doing so."""
        done = 0
        while done < len(self.pieces):
            piece = self.pieces[done]
            for name in wants(piece):
                self.take_for(name, piece[0])
            done += 1

    def take_for(self, name, by):
        """Takes the piece that comes first for the name, if it is to come from a shelf and was not taken."""
        if name in self.told_by_given:
            return
        if name not in self.on_shelves:
            # The entry is wanted by the empty text, which is less than every name.
            self.unmet[name] = min(by, self.unmet.get(name, by))
            return
        piece = self.on_shelves[name]
        if piece[0] not in self.from_shelves:
            self.from_shelves[piece[0]] = True
            self.pieces.append(piece)
            self.reasons.append((piece[0], name, by))


def pieces_on(shelves):
    """All pieces on the shelves, in their order."""
    pieces = []
    for shelf in shelves:
        pieces.extend(shelf)
    return pieces


def refuse_same_name(pieces):
    """Refuses pieces of which two have the same name."""
    seen = {}
    again = []
    for piece in pieces:
        if piece[0] in seen:
            again.append(piece[0])
        seen[piece[0]] = True
    if again:
        raise SameName(min(again))


def first_tellers(pieces):
    """For each name that one of the pieces tells, the first piece that does."""
    first = {}
    for piece in pieces:
        for name in tells(piece):
            first.setdefault(name, piece)
    return first
