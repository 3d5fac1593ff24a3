"""The machine by names, which knows no places."""

from joinload.deeds import a_of, b_of, c_of, deed_of, n_of, near_of, s_of, split_of
from joinload.errors import NoSense
from joinload.names import aims, names_of
from joinload.shelves import taken
from joinload.values import WithFill, at_first, at_value, copied_value, high_value, in_one_stretch, is_at, is_word
from joinload.values import moved_on, of_two_values, only_at, only_word

RULES_MEANT = {
    "high": "high", "add": "low", "load": "low", "store": "low", "same": "split", "under": "split", "call": "near",
}


class Named:
    """Stretches of values and words with fills, eight registers, a place reached, and the numbers told."""

    def __init__(self, given, shelves, entry, registers):
        pieces = taken(given, shelves, entry)
        names = names_of(pieces)
        # What is there by (piece name, stretch, offset); of each stretch its kind and how many words it has.
        self.memory = {}
        self.stretches = {}
        for piece in pieces:
            self.take_in(piece, names)
        self.place = at_value(names[entry])
        self.registers = [copied_value(value) for value in registers]
        self.numbers = []
        self.ended = False

    def take_in(self, piece, names):
        """Takes in the stretches of a piece, as they are at first."""
        for number, stretch in enumerate(piece[1]):
            words = stretch[2]
            fills = stretch[3]
            self.stretches[(piece[0], number)] = (stretch[0], len(words))
            for at, word in enumerate(words):
                self.memory[(piece[0], number, at)] = word
            for fill, aimed in zip(fills, aims(piece, names, fills)):
                at = fill[0]
                self.memory[(piece[0], number, at)] = at_first(words[at], fill[1], aimed)

    def go_on(self):
        """Does a step; tells False where the machine had ended."""
        if self.ended:
            return False
        here = self.deed_here()
        if isinstance(here, WithFill):
            self.do(here.word, here.aimed)
        else:
            self.do(here, None)
        return True

    def state(self):
        """The place reached, the registers, the numbers told, and whether the machine has ended."""
        registers = [copied_value(value) for value in self.registers]
        return (copied_value(self.place), registers, list(self.numbers), self.ended)

    def value_at(self, piece, stretch, offset):
        """The value there, or None where a word with a fill is."""
        found = self.memory.get((piece, stretch, offset))
        return None if found is None or isinstance(found, WithFill) else copied_value(found)

    def is_inside(self, value):
        """Whether the value is a place that has a word."""
        return is_at(value) and value[1:] in self.memory

    def found(self, value):
        """What is at the value, which must be a place that has a word."""
        if not self.is_inside(value):
            raise NoSense("there is no word")
        return self.memory[value[1:]]

    def stretch_of(self, value):
        """The kind of the stretch that an at value is of, and how many words it has."""
        return self.stretches[(value[1], value[2])]

    def deed_here(self):
        """What is at the place reached, a word or a word with a fill, which must be one that can be done."""
        here = self.found(self.place)
        if self.stretch_of(self.place)[0] != "code":
            raise NoSense("data cannot be done")
        if is_word(here):
            return here
        if isinstance(here, WithFill) and RULES_MEANT.get(deed_of(here.word)) == here.title:
            return here
        raise NoSense("no such word can be done")

    def do(self, word, aimed):
        """Does the deed of the word at the place reached; aimed is what its fill aims at, None where it has none."""
        deed = deed_of(word)
        a = a_of(word)
        first = self.registers[a]
        after = moved_on(self.place, 1)
        if deed == "end":
            self.ended = True
            return
        if deed == "tell":
            self.numbers.append(only_word(first))
        elif deed == "store":
            self.store(self.sought(word, aimed), first)
        elif deed == "same" or deed == "under":
            if self.goes(deed, first, self.registers[b_of(word)]):
                after = moved_on(after, split_of(word)) if aimed is None else aimed
        elif deed == "call":
            self.registers[a] = after
            after = moved_on(after, near_of(word)) if aimed is None else aimed
        elif deed == "go":
            after = only_at(first)
        else:
            self.registers[a] = self.result(deed, word, aimed)
        self.place = after

    def sought(self, word, aimed):
        """The value that add tells, at which load and store look."""
        second = self.registers[b_of(word)]
        if aimed is None:
            return moved_on(second, s_of(word))
        if second == high_value(aimed):
            return aimed
        raise NoSense("the lower part of a place is added to its own upper part alone")

    def store(self, place, value):
        """Puts the value at a place of data that has a word."""
        self.found(place)
        if self.stretch_of(place)[0] != "data":
            raise NoSense("code cannot be stored at")
        self.memory[place[1:]] = value

    def result(self, deed, word, aimed):
        """What a deed that does nothing else puts into its first register."""
        if deed == "put":
            return n_of(word)
        if deed == "high":
            return 65536 * n_of(word) if aimed is None else high_value(aimed)
        if deed == "add":
            return self.sought(word, aimed)
        if deed == "load":
            return self.value_found(self.sought(word, aimed))
        return of_two_values(deed, self.registers[b_of(word)], self.registers[c_of(word)])

    def value_found(self, place):
        """The value at a place that has one."""
        found = self.found(place)
        if isinstance(found, WithFill):
            raise NoSense("a word with a fill is no value")
        return found

    def goes(self, deed, first, second):
        """Whether a same or an under of these two values goes its way."""
        if is_word(first) and is_word(second):
            return first == second if deed == "same" else first < second
        return self.same(first, second) if deed == "same" else self.under(first, second)

    def same(self, first, second):
        """Whether two values, not both words, are the same, where that hangs on no place."""
        if in_one_stretch(first, second):
            return first[3] == second[3]
        # No base is 0, and no two words lie at one place: so neither can meet the other.
        if all([value == 0 or self.is_inside(value) for value in (first, second)]):
            return False
        raise NoSense("whether these are the same hangs on places")

    def under(self, first, second):
        """Whether the first of two values, not both words, is less, where that hangs on no place."""
        if in_one_stretch(first, second):
            many = self.stretch_of(first)[1]
            # Beyond the end of the stretch, places may wrap.
            if first[3] <= many and second[3] <= many:
                return first[3] < second[3]
        raise NoSense("which of these is less hangs on places")
