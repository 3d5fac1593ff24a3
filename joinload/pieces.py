"""Pieces, and the rows that they are written as."""

from joinload.errors import NoPiece, NoRule
from joinload.rules import rule_of

LETTERS = "abcdefghijklmnopqrstuvwxyz"
FIGURES = "0123456789"
NAME_SIGNS = "abcdefghijklmnopqrstuvwxyz0123456789_"
HOW_MANY_PARTS = {
    "piece": 2, "code": 2, "data": 2, "word": 2, "fill": 4, "soft": 4, "tell": 2, "weak": 2, "own": 2,
}


def is_name(text):
    """Whether the text is a name."""
    if not 1 <= len(text) <= 16 or text[0] not in LETTERS:
        return False
    return all([sign in NAME_SIGNS for sign in text])


def number_of(text, least, most):
    """The number from least to most that the text writes, or None."""
    figures = text[1:] if text.startswith("-") else text
    # Looked at ahead of int, which takes blanks and signs too, and refuses texts of thousands of figures.
    if not 1 <= len(figures) <= 10 or not all([sign in FIGURES for sign in figures]):
        return None
    if figures[0] == "0" and text != "0":
        return None
    number = int(text)
    return number if least <= number <= most else None


def step_in(text):
    """The step that the text writes, or None."""
    step = number_of(text, 1, 65536)
    # A number from 1 on is a power of two where it has no bit in common with the one below.
    if step is None or (step & (step - 1)) != 0:
        return None
    return step


def is_title(text):
    """Whether a rule is known by the text."""
    try:
        rule_of(text)
    except NoRule:
        return False
    return True


def read_piece(text):
    """The piece that the text writes."""
    reading = Reading()
    for number, row in enumerate(text.split("\n"), start=1):
        if not reading.takes(row.split(" ")):
            raise NoPiece(number)
    return (reading.name, reading.stretches, reading.names)


class Reading:
    """A piece as far as its rows were taken; each method takes a row, or tells False where it cannot stand."""

    def __init__(self):
        self.name = None
        self.stretches = []
        self.names = []
        self.last_words = None
        self.last_fills = None
        self.told = {}
        self.behind_word = False

    def takes(self, parts):
        """Takes any row, told by its parts."""
        head = parts[0]
        behind_word = self.behind_word
        self.behind_word = head == "word"
        if len(parts) != HOW_MANY_PARTS.get(head) or (head == "piece") != (self.name is None):
            return False
        if head == "piece":
            return self.takes_piece(parts[1])
        if head == "code" or head == "data":
            return self.takes_stretch(head, parts[1])
        if self.last_words is None:
            return False
        if head == "word":
            return self.takes_word(parts[1])
        if head == "fill" or head == "soft":
            return behind_word and self.takes_fill(head == "soft", parts[1], parts[2], parts[3])
        return self.takes_told(head, parts[1])

    def takes_piece(self, name):
        if not is_name(name):
            return False
        self.name = name
        return True

    def takes_stretch(self, kind, text):
        step = step_in(text)
        if step is None:
            return False
        self.last_words = []
        self.last_fills = []
        self.stretches.append((kind, step, self.last_words, self.last_fills))
        return True

    def takes_word(self, text):
        word = number_of(text, 0, 4294967295)
        if word is None:
            return False
        self.last_words.append(word)
        return True

    def takes_fill(self, soft, rule, name, text):
        add = number_of(text, -2147483648, 2147483647)
        if not is_title(rule) or not is_name(name) or add is None:
            return False
        # A soft fill may aim at a number, to which there is no way.
        if soft and (rule == "near" or rule == "split"):
            return False
        self.last_fills.append((len(self.last_words) - 1, rule, name, add, soft))
        return True

    def takes_told(self, sort, name):
        if name in self.told or not is_name(name):
            return False
        self.told[name] = True
        self.names.append((name, sort, len(self.stretches) - 1, len(self.last_words)))
        return True


def shown_piece(piece):
    """The text that writes the piece."""
    name = piece[0]
    names = name_rows(piece[2])
    rows = [f"piece {name}"]
    for number, stretch in enumerate(piece[1]):
        rows.extend(stretch_rows(number, stretch, names))
    return "\n".join(rows)


def name_rows(names):
    """The rows of the names, by where they stand: (stretch, offset)."""
    rows = {}
    for name, sort, stretch, offset in names:
        rows.setdefault((stretch, offset), []).append(f"{sort} {name}")
    return rows


def stretch_rows(number, stretch, names):
    """The rows of the stretch of this number, with those of the names in it."""
    kind = stretch[0]
    step = stretch[1]
    words = stretch[2]
    fills = fill_rows(stretch[3])
    rows = [f"{kind} {step}"]
    for at, word in enumerate(words):
        rows.extend(names.get((number, at), []))
        rows.append(f"word {word}")
        rows.extend(fills.get(at, []))
    rows.extend(names.get((number, len(words)), []))
    return rows


def fill_rows(fills):
    """The rows of the fills, by the numbers of their words."""
    rows = {}
    for at, rule, name, add, soft in fills:
        head = "soft" if soft else "fill"
        rows[at] = [f"{head} {rule} {name} {add}"]
    return rows


def pieces_by_name(pieces):
    """The pieces, by their names."""
    return dict([(piece[0], piece) for piece in pieces])


def copied_piece(piece):
    """The same piece, with lists of its own."""
    stretches = [(kind, step, list(words), copied_fills(fills)) for kind, step, words, fills in piece[1]]
    names = [(name, sort, stretch, offset) for name, sort, stretch, offset in piece[2]]
    return (piece[0], stretches, names)


def copied_fills(fills):
    """The same fills, as a list of their own."""
    return [(at, rule, name, add, soft) for at, rule, name, add, soft in fills]
