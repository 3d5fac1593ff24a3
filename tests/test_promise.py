"""Points 3, 4 and 46: what is joined, loaded and run does what the machine by names does, at every base."""
import copy
import itertools
import unittest

from joinload.errors import JoinError, NoSense, SameName, TooFar, Twice, Unmet
from joinload.joining import joined, map_of
from joinload.loading import loaded, start_of
from joinload.machine import Machine
from joinload.named import Named
from joinload.pieces import read_piece, shown_piece
from joinload.rules import rule_of
from joinload.wholes import read_whole, shown_whole

WORDS = 2 ** 32
TITLES = "end tell put high add load store sum less both odd turn same under call go".split()
MEANT = {"high": "high", "add": "low", "load": "low", "store": "low", "same": "split", "under": "split", "call": "near"}
BITS = {"a": [25, 26, 27], "b": [22, 23, 24], "c": [19, 20, 21], "n": list(range(16)), "near": list(range(19)),
        "split": [0, 1, 2, 3, 4, 5, 6, 14, 15, 16, 17, 18]}


def deed(title, **parts):
    """The word of a deed; what is not told of it is 0."""
    word = TITLES.index(title) << 28
    for part, number in parts.items():
        for place, bit in enumerate(BITS[part]):
            word |= (number >> place & 1) << bit
    return word


def at(piece, stretch, offset):
    return ("at", piece, stretch, offset % WORDS)


def high(piece, stretch, offset):
    return ("high", piece, stretch, offset % WORDS)


def stands_for(value, places, base):
    """Point 46, of a value."""
    if isinstance(value, int):
        return value
    place = (base + places[value[1], value[2]] + value[3]) % WORDS
    return place if value[0] == "at" else 65536 * ((place + 32768) // 65536) % WORDS


class Drawing:
    """Numbers that look drawn, the same ones each time."""

    def __init__(self, number):
        self.number = number

    def below(self, many):
        self.number = (self.number * 6364136223846793005 + 1442695040888963407) % 2 ** 64
        return (self.number >> 33) % many

    def one_of(self, things):
        return things[self.below(len(things))]


def stretch(kind, rows, step=1):
    """A stretch out of its rows: each a word, or a tuple (word, rule, name, add) or (.., soft)."""
    words, fills = [], []
    for number, row in enumerate(rows):
        if isinstance(row, int):
            words.append(row)
        else:
            words.append(row[0])
            fills.append((number, row[1], row[2], row[3], len(row) == 5))
    return (kind, step, words, fills)


def with_steps(pieces, steps):
    """The pieces with other steps of their stretches, one behind another out of steps."""
    going = itertools.cycle(steps)
    return [(name, [(kind, next(going), words, fills) for kind, step, words, fills in stretches], names)
            for name, stretches, names in pieces]


class PromiseTest(unittest.TestCase):
    def bases_of(self, whole):
        step, size = whole[:2]
        greatest = (WORDS - 1 - size) // step * step
        others = [32768, 65536 - size, 2 ** 31 - size // 2, 1000003]
        return sorted({step, 2 * step, greatest} | {max(base // step, 1) * step for base in others})

    def assert_alike(self, machine, named, places, base, memory, sizes):
        """All that point 3 tells of the two behind the same number of steps."""
        place, registers, numbers, ended = machine.state()
        value, values, told, over = named.state()
        self.assertEqual((ended, numbers), (over, told))
        self.assertEqual(place, stands_for(value, places, base))
        self.assertEqual(registers, [stands_for(each, places, base) for each in values])
        for key, many in sizes.items():
            for offset in range(many):
                here = base + places[key] + offset
                value = named.value_at(*key, offset)
                word = memory[here] if value is None else stands_for(value, places, base)
                self.assertEqual(machine.word_at(here), word, (key, offset))

    def assert_promise(self, given, shelves, entry, registers=(0,) * 8, many=400, bases=None):
        """Runs both side by side at many bases; tells the machine by names where it stands at last, and its steps."""
        whole = joined(given, shelves, entry)
        places = map_of(given, shelves, entry)
        self.assert_written(given, shelves, entry, whole)
        pieces = {piece[0]: piece for piece in given + [piece for shelf in shelves for piece in shelf]}
        sizes = {key: len(pieces[key[0]][1][key[1]][2]) for key in places}
        whole = read_whole(shown_whole(whole))
        for base in bases or self.bases_of(whole):
            memory = loaded(whole, base)
            self.assert_read_back(pieces, places, memory, base, Named(given, shelves, entry, [0] * 8))
            begun = [stands_for(value, places, base) for value in registers]
            machine = Machine(memory, start_of(whole, base), begun)
            named = Named(given, shelves, entry, list(registers))
            for step in range(many + 1):
                self.assert_alike(machine, named, places, base, memory, sizes)
                try:
                    went = named.go_on()
                except NoSense:
                    break
                self.assertIs(machine.go_on(), went)
                if not went:
                    break
        return named, step

    def assert_written(self, given, shelves, entry, whole):
        """The whole goes through its text, and the pieces through theirs, and nothing is changed by that."""
        self.assertEqual(read_whole(shown_whole(whole)), whole)
        again = [[read_piece(shown_piece(piece)) for piece in pieces] for pieces in [given] + shelves]
        self.assertEqual(joined(again[0], again[1:], entry), whole)
        base = whole[0]
        self.assertEqual(loaded(read_whole(shown_whole(whole)), base), loaded(whole, base))
        self.assertEqual(start_of(read_whole(shown_whole(whole)), base), start_of(whole, base))

    def assert_read_back(self, pieces, places, memory, base, named):
        """Point 4: each filled word, read back by its rule, tells what it aims at."""
        lower, upper = {}, {}
        for key in places:
            for number, rule, name, add, soft in pieces[key[0]][1][key[1]][3]:
                here = base + places[key] + number
                aim = self.aim(pieces, places, key[0], name, add)
                told = rule_of(rule).read_back(memory[here], here)
                if aim is None:
                    there = add % WORDS
                    self.assertEqual(named.value_at(*key, number), memory[here])
                else:
                    there = base + places[aim[:2]] + aim[2]
                    self.assertEqual(named.value_at(*key, number), at(*aim) if rule == "whole" else None)
                if rule in ("near", "split"):
                    self.assertEqual(told, there)
                elif rule == "whole":
                    self.assertEqual(told, there % WORDS)
                else:
                    (lower if rule == "low" else upper).setdefault(there, []).append(told)
        for there in set(lower) & set(upper):
            for one, other in itertools.product(lower[there], upper[there]):
                self.assertEqual((one + other) % WORDS, there % WORDS)
        for there in set(lower) ^ set(upper):
            for rule, told in [("high", lower.get(there, [])), ("low", upper.get(there, []))]:
                other = rule_of(rule).read_back(rule_of(rule).filled(0, 0, there), 0)
                for one in told:
                    self.assertEqual((one + other) % WORDS, there % WORDS)

    def aim(self, pieces, places, name, wanted, add):
        """What a fill aims at among the pieces that were taken, or None for a number."""
        for sorts, names in [(("own",), [name]), (("tell",), sorted(pieces)), (("weak",), sorted(pieces))]:
            for each in names:
                for told, sort, number, offset in pieces[each][2]:
                    if told == wanted and sort in sorts and (each, number) in places:
                        return each, number, offset + add
        return None


class ProgramsTest(PromiseTest):
    """Programs of several pieces, given and on shelves."""

    def chain(self):
        walk = stretch("code", [
            (deed("high", a=1), "high", "chain", 0), (deed("add", a=1, b=1), "low", "chain", 0),
            (deed("same", a=1, b=0), "split", "out", 0), deed("load", a=2, b=1), (deed("call", a=7), "near", "show", 0),
            deed("store", a=3, b=1), deed("load", a=1, b=1, n=1), (deed("same", a=0, b=0), "split", "loop", 0),
            deed("end")])
        show = stretch("code", [deed("tell", a=2), deed("sum", a=3, b=3, c=2), deed("go", a=7)], 8)
        cells = stretch("data", [11, (0, "whole", "chain", 4), 22, 0, 33, (5, "whole", "chain", 2)], 4)
        return ([("walk", [walk], [("main", "tell", 0, 0), ("loop", "own", 0, 2), ("out", "own", 0, 8)])],
                [[("show", [stretch("data", [1]), show], [("show", "tell", 1, 0)])],
                 [("cells", [stretch("code", [9]), cells], [("chain", "weak", 1, 0)]),
                  ("more", [stretch("data", [5])], [("chain", "tell", 0, 0)])]], "main")

    def test_a_chain_of_places(self):
        named, steps = self.assert_promise(*self.chain())
        self.assertEqual(named.state()[2:], ([11, 33, 22], True))
        self.assertEqual(named.state()[1][3], 66)
        self.assertEqual([named.value_at("cells", 1, offset) for offset in (0, 2, 4)], [11, 66, 44])

    def test_with_other_steps(self):
        given, shelves, entry = self.chain()
        for steps in ([1], [2], [64], [1, 2, 4, 8, 16], [1024, 1], [65536, 1, 1, 32768], [65536], [1, 512, 65536]):
            others = [with_steps(shelf, steps) for shelf in shelves]
            named, many = self.assert_promise(with_steps(given, steps), others, entry)
            self.assertEqual(named.state()[2:], ([11, 33, 22], True))

    def test_from_other_orders(self):
        given, shelves, entry = self.chain()
        whole = joined(given, shelves, entry)
        for order in itertools.permutations([shelves[0][0], shelves[1][0]]):
            self.assertEqual(joined(given, [list(order)], entry), whole)
            self.assert_promise(given, [[piece] for piece in order], entry)

    def test_as_long_as_the_join_is_not_refused(self):
        """Where a way is too far, the machine by names goes it nonetheless."""
        far = [("p", [stretch("code", [(deed("same", a=0, b=0), "split", "there", 0)], 1),
                      stretch("code", [deed("tell", a=0), deed("end")], 1)],
                [("main", "tell", 0, 0), ("there", "own", 1, 0)])]
        self.assertEqual(self.assert_promise(far, [], "main")[0].state()[2], [0])
        self.assertEqual(self.assert_promise(with_steps(far, [1, 2048]), [], "main")[0].state()[2], [0])
        with self.assertRaises(TooFar):
            joined(with_steps(far, [1, 4096]), [], "main")
        named = Named(with_steps(far, [1, 4096]), [], "main", [0] * 8)
        while named.go_on():
            pass
        self.assertEqual(named.state()[2], [0])

    def test_a_table_of_places_in_code(self):
        """Goes to each place that the table tells, until it comes to 0."""
        main = stretch("code", [
            (deed("high", a=1), "high", "table", -1), (deed("add", a=1, b=1), "low", "table", -1),
            deed("add", a=1, b=1, n=1), deed("load", a=2, b=1), (deed("same", a=2, b=0), "split", "done", 0),
            # No place is 0, but what is loaded may be: then there is nothing to go to.
            deed("go", a=2), deed("tell", a=4), deed("end")])
        one = stretch("code", [deed("put", a=4, n=3), (deed("high", a=5), "high", "more", 0),
                               (deed("add", a=6, b=5), "low", "more", 0), deed("go", a=6)])
        two = stretch("code", [deed("end"), deed("add", a=4, b=4, n=39), (deed("call", a=6), "near", "more", 0)], 32)
        table = stretch("data", [(7, "whole", "one", 0), (8, "whole", "two", 1), (9, "whole", "two", 1), 0], 16)
        given = [("m", [main, table], [("main", "weak", 0, 0), ("more", "tell", 0, 2), ("done", "own", 0, 6),
                                       ("table", "own", 1, 0)])]
        shelf = [("t", [stretch("data", [0]), one], [("one", "tell", 1, 0)]), ("s", [two], [("two", "weak", 0, 0)])]
        named, steps = self.assert_promise(given, [shelf], "main")
        self.assertEqual(named.state()[2:], ([81], True))
        self.assertEqual(named.state()[1][6], at("s", 0, 3))

    def test_differences_and_comparisons_of_places(self):
        """Clears a table from its end to its start, and tells how long it is."""
        main = stretch("code", [
            (deed("high", a=1), "high", "table", 0), (deed("add", a=1, b=1), "low", "table", 0),
            (deed("high", a=2), "high", "end", 0), (deed("add", a=2, b=2), "low", "end", 0),
            deed("less", a=3, b=2, c=1), deed("tell", a=3), deed("less", a=3, b=1, c=2), deed("tell", a=3),
            (deed("under", a=1, b=2), "split", "loop", 0), deed("end"),
            deed("add", a=2, b=2, n=65535), deed("load", a=4, b=2), deed("tell", a=4), deed("store", a=0, b=2),
            deed("same", a=1, b=2, split=2), deed("sum", a=5, b=0, c=2), deed("same", a=5, b=2, split=-7), deed("end")])
        table = stretch("data", [4, 5, 6, 7], 2)
        given = [("m", [main, table], [("main", "tell", 0, 0), ("loop", "own", 0, 10), ("table", "own", 1, 0),
                                       ("end", "tell", 1, 4)])]
        for steps in ([1], [2], [256, 128]):
            named, many = self.assert_promise(with_steps(given, steps), [], "main")
            self.assertEqual(named.state()[2:], ([4, WORDS - 4, 7, 6, 5, 4], True))

    def test_soft_names_told_and_not_told(self):
        main = stretch("code", [
            (deed("high", a=1), "high", "hook", 0, "soft"), (deed("add", a=1, b=1), "low", "hook", 0, "soft"),
            (deed("same", a=1, b=0), "split", "none", 0), deed("load", a=2, b=1), deed("tell", a=2),
            (deed("put", a=3), "low", "number", 77, "soft"), deed("tell", a=3), deed("end")])
        cell = stretch("data", [(3, "whole", "hook", 5, "soft"), (4, "high", "number", -70000, "soft")])
        given = [("m", [main, cell], [("main", "tell", 0, 0), ("none", "own", 0, 5), ("cell", "weak", 1, 0)])]
        wanting = ("w", [stretch("data", [(0, "low", "cell", 0)])], [])
        told = [("h", [stretch("data", [55, 56])], [("hook", "tell", 0, 1), ("wanted", "weak", 0, 0)])]
        named, steps = self.assert_promise(given, [told], "main")
        self.assertEqual(named.state()[2:], ([77], True))
        self.assertEqual(named.value_at("m", 1, 0), 5)
        named, steps = self.assert_promise(given + [wanting], told and [told], "main")
        self.assertEqual(named.state()[2:], ([77], True))
        named, steps = self.assert_promise(given + told, [], "main")
        self.assertEqual(named.state()[2:], ([56, 77], True))
        self.assertEqual(named.value_at("m", 1, 0), at("h", 0, 6))
        taken = given + [("w", [stretch("code", [(0, "near", "wanted", 0)])], [])]
        named, steps = self.assert_promise(taken, [told], "main")
        self.assertEqual(named.state()[2:], ([56, 77], True))

    def test_a_stack_of_places(self):
        """Calls itself, with the ways back and the numbers on a stack in data."""
        main = stretch("code", [
            (deed("high", a=6), "high", "stack", 0), (deed("add", a=6, b=6), "low", "stack", 0), deed("put", a=1, n=5),
            (deed("call", a=7), "near", "fact", 0), deed("tell", a=2), deed("end")])
        fact = stretch("code", [
            (deed("same", a=1, b=0), "split", "least", 0), deed("store", a=7, b=6), deed("store", a=1, b=6, n=1),
            deed("add", a=6, b=6, n=2), deed("add", a=1, b=1, n=65535), (deed("call", a=7), "near", "fact", 0),
            deed("add", a=6, b=6, n=65534), deed("load", a=1, b=6, n=1), deed("load", a=7, b=6),
            deed("sum", a=2, b=2, c=1), deed("go", a=7), deed("put", a=2, n=100), deed("go", a=7)])
        pieces = [("m", [main, stretch("data", [0] * 12)], [("main", "tell", 0, 0), ("stack", "own", 1, 0)])]
        shelf = [("f", [fact], [("fact", "weak", 0, 0), ("least", "own", 0, 11)])]
        named, steps = self.assert_promise(pieces, [[], shelf], "main")
        self.assertEqual(named.state()[2:], ([115], True))
        self.assertEqual(named.value_at("m", 1, 0), at("m", 0, 4))
        self.assertEqual(named.value_at("m", 1, 2), at("f", 0, 6))

    def test_upper_parts_kept_in_data(self):
        main = stretch("code", [
            (deed("high", a=1), "high", "cell", 0), (deed("high", a=2), "high", "far", 40000),
            (deed("store", a=2, b=1), "low", "cell", 0), (deed("load", a=3, b=1), "low", "cell", 0),
            (deed("add", a=4, b=3), "low", "far", 40000), deed("add", a=4, b=4, n=(-30000) % 65536),
            deed("add", a=4, b=4, n=(-10000) % 65536), deed("load", a=5, b=4), deed("tell", a=5), deed("end")])
        given = [("m", [main, stretch("data", [1]), stretch("data", [2, 3], 512)],
                  [("main", "tell", 0, 0), ("cell", "own", 1, 0), ("far", "own", 2, 1)])]
        named, steps = self.assert_promise(given, [], "main")
        self.assertEqual(named.state()[2:], ([3], True))
        self.assertEqual(named.value_at("m", 1, 0), high("m", 2, 40001))

    def test_code_that_is_loaded(self):
        plain = deed("put", a=1, n=4660)
        main = stretch("code", [
            (deed("high", a=1), "high", "main", 3), (deed("load", a=2, b=1), "low", "main", 3), deed("tell", a=2),
            plain, (deed("high", a=3), "high", "main", 7), (deed("load", a=4, b=3), "low", "main", 7), deed("go", a=4),
            (9, "whole", "main", 8), deed("end")])
        named, steps = self.assert_promise([("m", [main], [("main", "tell", 0, 0)])], [], "main")
        self.assertEqual(named.state()[2:], ([plain], True))

    def test_the_end_of_a_stretch_of_code(self):
        """What the machine by names refuses, and all ahead of it."""
        given = [("m", [stretch("code", [deed("put", a=1, n=3), deed("tell", a=1)]), stretch("code", [deed("end")])],
                  [("main", "tell", 0, 0)])]
        named, steps = self.assert_promise(given, [], "main")
        self.assertEqual((steps, named.state()), (2, (at("m", 0, 2), [0, 3, 0, 0, 0, 0, 0, 0], [3], False)))


class RegistersTest(PromiseTest):
    """Registers that stand for one another at first."""

    def test_each_deed_with_each_kind_of_value(self):
        values = [0, 1, WORDS - 1, at("m", 0, 0), at("m", 1, 0), at("m", 1, 1), at("m", 1, 2), at("m", 1, -1),
                  at("m", 2, 0), at("m", 2, 1), high("m", 1, 1), high("m", 2, 0), high("m", 1, 40000)]
        done = 0
        for title, filled in [(title, filled) for title in TITLES for filled in (False, True)]:
            if filled and title not in MEANT:
                continue
            word = deed(title, a=2, b=2, c=3) if title in TITLES[7:12] else deed(title, a=2, b=3, n=1)
            row = (word, MEANT[title], "x", 1) if filled else word
            given = [("m", [stretch("code", [row, deed("end"), (0, "whole", "x", 0), (0, "whole", "z", 0)]),
                            stretch("data", [5, 6], 4), stretch("data", [7], 2)],
                      [("main", "tell", 0, 0), ("x", "own", 1, 0), ("z", "own", 2, 0)])]
            for one, two in itertools.product(values, values):
                bases = (4, 32760, WORDS - 12)
                done += self.assert_promise(given, [], "main", [0, 0, one, two, 0, 0, 0, 0], 1, bases)[1]
        self.assertGreater(done, 1300)


class Typed:
    """A program out of drawn numbers that makes sense: r0 is 0, r1 and r2 words, r3 a place of data, r6 a way back."""

    def __init__(self, number):
        self.draw = Drawing(number)
        self.rows, self.names, self.labels = [], [], 0
        self.subs = ["s0", "s1"]

    def new_label(self):
        self.labels += 1
        return f"l{self.labels}"

    def here(self, label):
        self.names.append((label, "own", 0, len(self.rows)))

    def cell(self):
        """A cell for words, by the name of its data and an add."""
        return self.draw.one_of(["d0", "d1", "d2"]), self.draw.below(3)

    def place_cell(self):
        return self.draw.one_of(["d0", "d1", "d2"]), 3 + self.draw.below(2)

    def by(self, title, a, cell):
        """A deed at a cell, by high and low; r5 is lost."""
        self.rows += [(deed("high", a=5), "high", *cell), (deed(title, a=a, b=5), "low", *cell)]

    def words(self):
        for title in self.draw.one_of(["odd turn both sum", "turn less odd", "less both turn odd"]).split():
            a, b, c = 1 + self.draw.below(2), self.draw.below(3), self.draw.below(3)
            self.rows += [deed(title, a=a, b=b, c=c), deed("add", a=3 - a, b=a, n=self.draw.below(65536))]

    def numbers(self):
        a = 1 + self.draw.below(2)
        self.rows.append(deed(self.draw.one_of(["put", "high"]), a=a, n=self.draw.below(65536)))

    def tell(self):
        self.rows.append(deed("tell", a=self.draw.below(3)))

    def load_and_store(self):
        self.by("load", 1, self.cell())
        self.by("store", 2, self.cell())
        self.by("load", 3, self.place_cell())
        self.rows += [deed("load", a=2, b=3), deed("store", a=1, b=3)]

    def pointers(self):
        self.by("add", 3, self.cell())
        self.by("store", 3, self.place_cell())
        self.rows += [deed("add", a=4, b=3, n=5), deed("load", a=2, b=4, n=65531), deed("less", a=1, b=4, c=3)]

    def pairs(self):
        """Of a place and another of its stretch."""
        self.by("add", 3, (self.draw.one_of(["d0", "d1", "d2"]), 0))
        self.rows.append(deed("put", a=1, n=self.draw.below(6)))
        self.rows.append(self.draw.one_of([deed("sum", a=4, b=1, c=3), deed("sum", a=4, b=3, c=1)]))
        self.skip(deed(self.draw.one_of(["same", "under"]), a=4, b=3))
        self.skip(deed(self.draw.one_of(["same", "under"]), a=3, b=4))
        self.rows += [deed("less", a=4, b=4, c=1), deed("less", a=2, b=4, c=3)]

    def places(self):
        """Of two places of stretches that may be unlike, and of one and 0."""
        self.by("add", 4, self.cell())
        self.by("load", 3, self.place_cell())
        self.skip(deed("same", a=3, b=4))
        self.skip(deed("same", a=4, b=0))
        self.skip(deed("same", a=0, b=3))

    def skip(self, word):
        """Over the next deed, with a fill or without."""
        if self.draw.below(2):
            label = self.new_label()
            self.rows += [(word, "split", label, 0), deed("add", a=1, b=1, n=7)]
            self.here(label)
        else:
            self.rows += [word | 1, deed("add", a=1, b=1, n=7)]

    def compare(self):
        self.skip(deed(self.draw.one_of(["same", "under"]), a=self.draw.below(3), b=self.draw.below(3)))

    def call(self):
        if self.subs:
            self.rows.append((deed("call", a=6), "near", self.draw.one_of(self.subs), 0))

    def call_plainly(self):
        """Over a word without a fill, to the one behind, which goes back."""
        self.rows += [deed("call", a=4, near=1), deed("same", a=0, b=0, split=1), deed("go", a=4)]

    def go(self):
        label = self.new_label()
        self.by("add", 4, (label, 0))
        self.rows += [deed("go", a=4), deed("end")]
        self.here(label)

    def upper(self):
        """The upper part of a place, kept in data for a while."""
        cell = self.cell()
        self.rows.append((deed("high", a=4), "high", *cell))
        self.by("store", 4, ("any", 0))
        self.by("load", 3, ("any", 0))
        self.rows.append((deed("add", a=3, b=3), "low", *cell))

    def soft(self):
        self.rows += [(deed("add", a=1, b=2), "low", "nobody", self.draw.below(2 ** 31) - 2 ** 30, "soft"),
                      (deed("high", a=2), "high", "nobody", self.draw.below(2 ** 31), "soft")]

    def code_loaded(self):
        label = self.new_label()
        self.by("load", 1, (label, 0))
        self.here(label)
        self.rows.append(deed("sum", a=2, b=2, c=1))

    def block(self, many):
        for each in range(many):
            self.draw.one_of([
                self.words, self.numbers, self.tell, self.load_and_store, self.pointers, self.pairs, self.places,
                self.compare, self.call, self.call_plainly, self.go, self.upper, self.soft, self.code_loaded])()

    def loop(self, times, many):
        again, out = self.new_label(), self.new_label()
        self.rows.append(deed("put", a=7, n=times))
        self.here(again)
        self.block(many)
        self.rows += [deed("add", a=7, b=7, n=65535), (deed("same", a=7, b=0), "split", out, 0),
                      (deed("same", a=0, b=0), "split", again, 0)]
        self.here(out)

    def piece(self, name, told, last):
        self.rows.append(deed(last, a=6))
        self.here("never")
        step = 2 ** self.draw.below(6)
        return (name, [stretch("code", self.rows, step)], [(told, "tell", 0, 0)] + self.names)

    def data(self, name):
        words = [self.draw.below(WORDS) for each in range(3)]
        places = [(self.draw.below(9), "whole", *self.cell()) for each in range(2)]
        rows = words + places + [(3, "whole", "nobody", self.draw.below(1000), "soft")]
        kept = stretch("data", rows, 2 ** self.draw.below(5))
        return (f"x{name}", [stretch("data", [1, 2]), kept], [(name, self.draw.one_of(["tell", "weak"]), 1, 0)])


def typed(number):
    """The join of a program: given pieces, shelves, entry."""
    main = Typed(number)
    main.block(2)
    main.loop(2 + main.draw.below(2), 4)
    main.tell()
    pieces = [main.piece("m", "main", "end")]
    for each in ("s0", "s1"):
        sub = Typed(number * 1000 + int(each[1]) + 1)
        sub.subs = []
        sub.block(3)
        pieces.append(sub.piece(each, each, "go"))
    pieces += [main.data(name) for name in ("d0", "d1", "d2")]
    pieces.append(("any", [stretch("data", [0])], [("any", "tell", 0, 0)]))
    given = [piece for place, piece in enumerate(pieces) if number >> place & 1]
    others = [piece for place, piece in enumerate(pieces) if not number >> place & 1]
    return given, [others[::2], [], others[1::2]], "main"


class DrawnTest(PromiseTest):
    def deeds_of(self, given, shelves, entry):
        """The deeds of a run, each with whether it has a fill."""
        named = Named(given, shelves, entry, [0] * 8)
        pieces = {piece[0]: piece for piece in given + [piece for shelf in shelves for piece in shelf]}
        deeds = []
        going = True
        while going:
            name, number, offset = named.state()[0][1:]
            kind, step, words, fills = pieces[name][1][number]
            filled = named.value_at(name, number, offset) is None
            word = words[offset] if filled else named.value_at(name, number, offset)
            deeds.append((TITLES[word >> 28], filled))
            going = named.go_on()
        return deeds[:-1]

    def test_programs_that_make_sense(self):
        met = {}
        for number in range(60):
            given, shelves, entry = typed(number)
            named, steps = self.assert_promise(given, shelves, entry)
            self.assertIs(named.state()[3], True)
            for each in self.deeds_of(given, shelves, entry):
                met[each] = met.get(each, 0) + 1
        self.assertEqual(set(met), {(title, False) for title in TITLES} | {(title, True) for title in MEANT})
        self.assertGreater(min(met.values()), 15)
        self.assertGreater(sum(met.values()), 4000)

    def test_with_other_steps(self):
        for number in range(60, 72):
            given, shelves, entry = typed(number)
            expected = self.assert_promise(given, shelves, entry)[0].state()
            for steps in ([1], [32], [1, 4096], [1, 65536, 16]):
                others = [with_steps(shelf, steps) for shelf in shelves]
                named = self.assert_promise(with_steps(given, steps), others, entry)[0]
                self.assertEqual(named.state(), expected)

    def test_programs_drawn_at_will(self):
        """They are mostly refused soon by the machine by names; up to there, both do the same."""
        done = 0
        for number in range(250):
            draw = Drawing(number)
            stretches, names = [], []
            for each in range(4):
                rows = []
                for place in range(3 + draw.below(4)):
                    title = draw.one_of(TITLES)
                    word = deed(title, a=draw.below(4), b=draw.below(4), c=draw.below(4), n=draw.below(4))
                    rule = draw.one_of(["whole", "low", "high"])
                    add = draw.below(6) - 2
                    if each % 2 and draw.below(2):
                        rows.append((word, rule, draw.one_of(["n0", "n1", "n2", "n3"]), add))
                    elif title in MEANT and draw.below(2):
                        rows.append((word, MEANT[title], draw.one_of(["n0", "n1", "n2", "n3"]), add))
                    else:
                        rows.append(word)
                stretches.append(stretch(("code", "data")[each % 2], rows, 2 ** draw.below(4)))
                names.append((f"n{each}", draw.one_of(["tell", "weak"]), each, draw.below(3)))
            # Whatever the rows want, each stretch is kept by the last one.
            stretches.append(stretch("data", [(0, "whole", f"n{each}", 0) for each in range(4)]))
            stretches[0][2].append(deed("end"))
            stretches[0][3].append((len(stretches[0][2]) - 1, "whole", "all", 0, False))
            given = [("p", stretches, names + [("all", "own", 4, 0)])]
            registers = [draw.below(4)] + [at("p", draw.below(5), draw.below(5)) for each in range(2)]
            registers += [high("p", draw.below(4), draw.below(4))] + [0] * 4
            done += self.assert_promise(given, [], "n0", registers, 30)[1]
        self.assertGreater(done, 200)


class OrdersTest(PromiseTest):
    """Point 4: orders change nothing of a run nor of a refusal, where no name is told by two pieces of the shelves."""

    def answers(self, given, shelves, entry):
        """All that both machines tell on their way, and what they were made of; or the refusal."""
        told = []
        for make in (self.loaded_one, Named):
            try:
                machine = make(given, shelves, entry, [0] * 8)
            except JoinError as refusal:
                told.append((type(refusal), vars(refusal)))
                continue
            told.append([machine.state()])
            while machine.go_on():
                told[-1].append(machine.state())
        return told

    def loaded_one(self, given, shelves, entry, registers):
        whole = joined(given, shelves, entry)
        return Machine(loaded(whole, 4096), start_of(whole, 4096), registers)

    def assert_all_orders(self, pieces, entry):
        expected = self.answers(pieces[:2], [pieces[2:]], entry)
        for given in (pieces[:2], pieces[1::-1]):
            for order in itertools.permutations(pieces[2:]):
                for cut in range(len(order)):
                    shelves = [list(order[:cut]), list(order[cut:])]
                    self.assertEqual(self.answers(list(given), shelves, entry), expected)
        return expected

    def pieces(self, number):
        given, shelves, entry = typed(number)
        return sorted(given + shelves[0] + shelves[2])

    def test_runs(self):
        for number in (3, 7):
            told = self.assert_all_orders(self.pieces(number), "main")
            self.assertIs(told[0][-1][3], True)
            self.assertEqual(len(told[0]), len(told[1]))

    def test_refusals(self):
        pieces = self.pieces(3)
        twice = ("t", [stretch("code", [0])], [("main", "tell", 0, 0)])
        for others, entry, refusal in [
                (pieces[:6], "main", (Unmet, {"name": "d2", "piece": "m"})),
                (pieces, "nobody", (Unmet, {"name": "nobody", "piece": ""})),
                (pieces[:6] + [("xd0", [], [])], "main", (SameName, {"name": "xd0"})),
                ([twice] + pieces[1:], "main", (Unmet, {"name": "any", "piece": "m"})),
                ([twice, pieces[1], pieces[0]] + pieces[2:], "d0",
                 (Twice, {"name": "main", "one": "m", "other": "t"}))]:
            self.assertEqual(self.assert_all_orders(others, entry), [refusal, refusal])


class BoundsTest(PromiseTest):
    def test_many_pieces(self):
        """A hundred pieces that call one another in a row, each with its data, out of a thousand words each."""
        pieces = []
        for each in range(100):
            rows = [(deed("high", a=1), "high", f"d{each}", 998), (deed("load", a=2, b=1), "low", f"d{each}", 998),
                    deed("sum", a=3, b=3, c=2), (deed("same", a=0, b=0), "split", f"c{each + 1}", 0) if each < 99 else
                    deed("tell", a=3), deed("end")]
            rows += [deed("put")] * 995
            pieces.append((f"p{each:02}", [stretch("code", rows), stretch("data", [each] * 1000)],
                           [(f"c{each}", "tell", 0, 0), (f"d{each}", "tell", 1, 1)]))
        named = Named(pieces[:1], [pieces[:0:-1]], "c0", [0] * 8)
        whole = joined(pieces[:1], [pieces[:0:-1]], "c0")
        self.assertEqual((whole[1], len(whole[4])), (200000, 200))
        places = map_of(pieces[:1], [pieces[:0:-1]], "c0")
        for base in (1, WORDS - 1 - whole[1]):
            machine = Machine(loaded(whole, base), start_of(whole, base), [0] * 8)
            named = Named(pieces[:1], [pieces[:0:-1]], "c0", [0] * 8)
            going = True
            while going:
                place, registers, numbers, ended = named.state()
                told = machine.state()
                self.assertEqual(told[0], stands_for(place, places, base))
                self.assertEqual(told[1], [stands_for(value, places, base) for value in registers])
                self.assertEqual(told[2:], (numbers, ended))
                going = named.go_on()
                self.assertIs(machine.go_on(), going)
            self.assertEqual(numbers, [4950])

    def test_the_places_at_the_edges(self):
        """Places at the end of what is loaded, where the next one would be the last of all, and wrapped ones below."""
        main = stretch("code", [
            (deed("high", a=1), "high", "end", 0), (deed("add", a=1, b=1), "low", "end", 0),
            (deed("high", a=2), "high", "table", 0), (deed("add", a=2, b=2), "low", "table", 0),
            deed("under", a=2, b=1, split=1), deed("end"), deed("add", a=3, b=2, n=32768), deed("less", a=4, b=3, c=1),
            deed("tell", a=4), deed("add", a=3, b=3, n=32767), deed("load", a=5, b=3, n=1), deed("tell", a=5),
            (deed("high", a=6), "high", "table", -2147483648), (deed("add", a=6, b=6), "low", "table", -2147483648),
            deed("less", a=6, b=2, c=6), deed("tell", a=6), deed("end")])
        given = [("m", [main, stretch("data", [9, 8])],
                  [("main", "tell", 0, 0), ("table", "own", 1, 0), ("end", "own", 1, 2)])]
        whole = joined(given, [], "main")
        bases = [1, 2, 32766 - whole[1], 32767, 32768, 65535, 65536, 2 ** 31 - 1, 2 ** 31, WORDS - 1 - whole[1]]
        named, steps = self.assert_promise(given, [], "main", bases=bases)
        self.assertEqual(named.state()[2:], ([WORDS - 32770, 9, 2 ** 31], True))


class OwnCopiesTest(PromiseTest):
    """Point 2 over the whole way: nothing of it hangs together behind the calls."""

    def test_each_on_its_own(self):
        asked = typed(5)
        before = copy.deepcopy(asked)
        whole = joined(*asked)
        text = shown_whole(whole)
        memory = loaded(whole, whole[0])
        start = start_of(whole, whole[0])
        machine, named = Machine(memory, start, [0] * 8), Named(*asked, [0] * 8)
        self.assertEqual(asked, before)
        expected = self.run_through(Machine(memory, start, [0] * 8)), self.run_through(Named(*typed(5), [0] * 8))
        for given in [asked[0]] + asked[1]:
            for name, stretches, names in given:
                for kind, step, words, fills in stretches:
                    words[:] = [0] * len(words)
                    fills.clear()
                names.clear()
            given.clear()
        self.assertEqual(shown_whole(whole), text)
        for place, words in whole[3]:
            words.clear()
        whole[4].clear()
        memory.clear()
        self.assertEqual((self.run_through(machine), self.run_through(named)), expected)
        self.assertEqual(loaded(read_whole(text), 64), loaded(joined(*before), 64))

    def run_through(self, machine):
        states = [machine.state()]
        while machine.go_on():
            states.append(machine.state())
        return states


if __name__ == "__main__":
    unittest.main()
