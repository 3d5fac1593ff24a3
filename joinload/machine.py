"""The machine over words."""

from joinload.bits import wrapped
from joinload.deeds import a_of, b_of, c_of, deed_of, n_of, near_of, of_two_words, s_of, split_of
from joinload.errors import Lost


class Machine:
    """A memory of words at places, eight registers, a place reached, and the numbers told."""

    def __init__(self, memory, start, registers):
        self.memory = dict(memory)
        self.place = wrapped(start)
        self.registers = list(registers)
        self.numbers = []
        self.ended = False

    def go_on(self):
        """Does a step; tells False where the machine had ended."""
        if self.ended:
            return False
        self.do(self.found(self.place))
        return True

    def state(self):
        """The place reached, the registers, the numbers told, and whether the machine has ended."""
        return (self.place, list(self.registers), list(self.numbers), self.ended)

    def word_at(self, place):
        """The word at the place, or None."""
        return self.memory.get(place)

    def found(self, place):
        """The word at the place, which must have one."""
        if place not in self.memory:
            raise Lost(place)
        return self.memory[place]

    def do(self, word):
        """Does the deed of the word, which stands at the place reached."""
        deed = deed_of(word)
        a = a_of(word)
        first = self.registers[a]
        after = wrapped(self.place + 1)
        if deed == "end":
            self.ended = True
            return
        if deed == "tell":
            self.numbers.append(first)
        elif deed == "store":
            self.store(self.sought(word), first)
        elif deed == "same" or deed == "under":
            if self.goes(deed, word):
                after = wrapped(after + split_of(word))
        elif deed == "call":
            self.registers[a] = after
            after = wrapped(after + near_of(word))
        elif deed == "go":
            after = first
        else:
            self.registers[a] = self.result(deed, word)
        self.place = after

    def sought(self, word):
        """The sum that add tells, at which load and store look."""
        return wrapped(self.registers[b_of(word)] + s_of(word))

    def store(self, place, word):
        """Puts the word at a place that has one."""
        self.found(place)
        self.memory[place] = word

    def goes(self, deed, word):
        """Whether a same or an under goes its way."""
        first = self.registers[a_of(word)]
        second = self.registers[b_of(word)]
        return first == second if deed == "same" else first < second

    def result(self, deed, word):
        """What a deed that does nothing else puts into its first register."""
        if deed == "put":
            return n_of(word)
        if deed == "high":
            return 65536 * n_of(word)
        if deed == "add":
            return self.sought(word)
        if deed == "load":
            return self.found(self.sought(word))
        return of_two_words(deed, self.registers[b_of(word)], self.registers[c_of(word)])
