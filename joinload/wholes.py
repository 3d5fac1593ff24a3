"""Wholes, and the rows that they are written as."""

from joinload.errors import NoWhole
from joinload.pieces import number_of, step_in

LEANING_RULES = ("whole", "high", "low")
HOW_MANY_PARTS = {"whole": 4, "part": 2, "word": 2, "lean": 3}


def shown_whole(whole):
    """The text that writes the whole."""
    step = whole[0]
    size = whole[1]
    entry = whole[2]
    leans = lean_rows(whole[4])
    rows = [f"whole {step} {size} {entry}"]
    for place, words in whole[3]:
        rows.append(f"part {place}")
        for at, word in enumerate(words):
            rows.append(f"word {word}")
            rows.extend(leans.get(place + at, []))
    return "\n".join(rows)


def lean_rows(leans):
    """The rows of the leans, by the places of their words."""
    rows = {}
    for place, rule, target in leans:
        rows[place] = [f"lean {rule} {target}"]
    return rows


def read_whole(text):
    """The whole that the text writes."""
    reading = WholeReading()
    for number, row in enumerate(text.split("\n"), start=1):
        if not reading.takes(row.split(" ")):
            raise NoWhole(number)
    return (reading.step, reading.size, reading.entry, reading.parts, reading.leaning)


class WholeReading:
    """A whole as far as its rows were taken; each method takes a row, or tells False where it cannot stand."""

    def __init__(self):
        self.step = None
        self.size = None
        self.entry = None
        self.parts = []
        self.leaning = []
        self.last_words = None
        # The end of the part that was taken last: where its next word would stand.
        self.end = 0
        self.behind_word = False

    def takes(self, parts):
        """Takes any row, told by its parts."""
        head = parts[0]
        behind_word = self.behind_word
        self.behind_word = head == "word"
        if len(parts) != HOW_MANY_PARTS.get(head) or (head == "whole") != (self.step is None):
            return False
        if head == "whole":
            return self.takes_whole(parts[1], parts[2], parts[3])
        if head == "part":
            return self.takes_part(parts[1])
        if head == "word":
            return self.takes_word(parts[1])
        return behind_word and self.takes_lean(parts[1], parts[2])

    def takes_whole(self, step, size, entry):
        self.step = step_in(step)
        self.size = number_of(size, 0, 4294967295)
        if self.step is None or self.size is None:
            return False
        self.entry = number_of(entry, 0, self.size)
        return self.entry is not None

    def takes_part(self, text):
        place = number_of(text, self.end, self.size)
        if place is None:
            return False
        self.end = place
        self.last_words = []
        self.parts.append((place, self.last_words))
        return True

    def takes_word(self, text):
        word = number_of(text, 0, 4294967295)
        if word is None or self.last_words is None or self.end >= self.size:
            return False
        self.last_words.append(word)
        self.end += 1
        return True

    def takes_lean(self, rule, text):
        target = number_of(text, -9999999999, 9999999999)
        if rule not in LEANING_RULES or target is None:
            return False
        self.leaning.append((self.end - 1, rule, target))
        return True
