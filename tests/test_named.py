"""Points 41 to 45 and 47: the machine by names; and point 2 of it."""
import copy
import itertools
import unittest

from joinload.errors import JoinError, NoSense, SameName, Twice, Unmet
from joinload.named import Named

WORDS = 2 ** 32
TOP = WORDS - 1
TITLES = "end tell put high add load store sum less both odd turn same under call go".split()
RULES = ("whole", "high", "low", "near", "split")
BITS = {"a": [25, 26, 27], "b": [22, 23, 24], "c": [19, 20, 21], "n": list(range(16)), "near": list(range(19)),
        "split": [0, 1, 2, 3, 4, 5, 6, 14, 15, 16, 17, 18]}


def deed(title, **parts):
    """The word of a deed; what is not told of it is 0."""
    word = TITLES.index(title) << 28
    for part, number in parts.items():
        for place, bit in enumerate(BITS[part]):
            word |= (number >> place & 1) << bit
    return word


def code(words, fills=(), step=1):
    return ("code", step, list(words), list(fills))


def data(words, fills=(), step=1):
    return ("data", step, list(words), list(fills))


def fill(at, rule, name, add=0, soft=False):
    return (at, rule, name, add, soft)


def at(piece, stretch, offset):
    return ("at", piece, stretch, offset % WORDS)


def high(piece, stretch, offset):
    return ("high", piece, stretch, offset % WORDS)


def minus(bits):
    """The number that the bits write, the first one counting below 0."""
    return int(bits, 2) - (2 ** len(bits) if bits[0] == "1" else 0)


def kind(value):
    return "word" if isinstance(value, int) else value[0]


class Refused(Exception):
    """Where the words of the document lead to NoSense."""


def hold(truth):
    if not truth:
        raise Refused


class Expected:
    """Points 42 to 45 told anew, of pieces that are all taken; each fill is looked up when it is come to."""

    def __init__(self, pieces, entry, registers):
        self.own, self.names, self.stretches = {}, {}, {}
        for name, stretches, names in sorted(pieces, reverse=True):
            for number, stretch in enumerate(stretches):
                self.stretches[name, number] = stretch[0], list(stretch[2]), {each[0]: each for each in stretch[3]}
            self.own.update({(name, each): (name, *place) for each, sort, *place in names if sort == "own"})
        for by in ("weak", "tell"):
            for name, stretches, names in sorted(pieces, reverse=True):
                self.names.update({each: (name, *place) for each, sort, *place in names if sort == by})
        self.place, self.registers, self.numbers, self.ended = at(*self.names[entry]), list(registers), [], False

    def state(self):
        return self.place, list(self.registers), list(self.numbers), self.ended

    def aim(self, piece, each):
        """The at value that a fill aims at, or its number."""
        where = self.own.get((piece, each[2]), self.names.get(each[2]))
        return each[3] % WORDS if where is None else at(where[0], where[1], where[2] + each[3])

    def many(self, value):
        return len(self.stretches[value[1:3]][1])

    def within(self, value):
        return kind(value) == "at" and value[3] < self.many(value)

    def there(self, piece, stretch, offset):
        """What is there: ("value", it), or ("filled", word, rule, aim)."""
        sort, words, fills = self.stretches[piece, stretch]
        if offset not in fills:
            return ("value", words[offset])
        aimed, rule, word = self.aim(piece, fills[offset]), fills[offset][1], words[offset]
        if kind(aimed) == "at":
            return ("value", aimed) if rule == "whole" else ("filled", word, rule, aimed)
        lower = {"low": aimed, "high": (aimed + 32768) // 65536}.get(rule, 0) % 65536
        return ("value", aimed if rule == "whole" else word // 65536 * 65536 + lower)

    def value_at(self, piece, stretch, offset):
        found = self.there(piece, stretch, offset)
        return found[1] if found[0] == "value" else None

    def go_on(self):
        """True or False as the machine tells, None where it refuses."""
        if self.ended:
            return False
        before = copy.deepcopy((self.place, self.registers, self.numbers, self.stretches))
        try:
            self.step()
        except Refused:
            self.place, self.registers, self.numbers, self.stretches = before
            return None
        return True

    def step(self):
        hold(self.within(self.place) and self.stretches[self.place[1:3]][0] == "code")
        found = self.there(*self.place[1:])
        aimed = found[3] if found[0] == "filled" else None
        bits = f"{found[1]:032b}" if kind(found[1]) == "word" else hold(False)
        title = TITLES[int(bits[:4], 2)]
        if aimed:
            hold((title, found[2]) in [("high", "high"), ("add", "low"), ("load", "low"), ("store", "low"),
                                       ("same", "split"), ("under", "split"), ("call", "near")])
        a, b, c = int(bits[4:7], 2), int(bits[7:10], 2), int(bits[10:13], 2)
        values = [self.registers[a], self.registers[b], self.registers[c]]
        following = self.plus(self.place, 1)
        if title == "end":
            self.ended = True
            return
        self.place = following
        if title in ("same", "under"):
            if getattr(self, title)(values[0], values[1]):
                self.place = aimed or self.plus(following, minus(bits[13:18] + bits[25:]))
        elif title == "call":
            self.registers[a], self.place = following, aimed or self.plus(following, minus(bits[13:]))
        elif title == "go":
            hold(kind(values[0]) == "at")
            self.place = values[0]
        elif title == "tell":
            hold(kind(values[0]) == "word")
            self.numbers.append(values[0])
        elif title in ("add", "load", "store"):
            self.by_place(title, a, values[:2], aimed, minus(bits[16:]))
        elif title in ("put", "high"):
            number = int(bits[16:], 2)
            self.registers[a] = number if title == "put" else high(*aimed[1:]) if aimed else number * 65536
        else:
            self.registers[a] = getattr(self, title)(values[1], values[2])

    def plus(self, value, number):
        return (value + number) % WORDS if kind(value) == "word" else at(value[1], value[2], value[3] + number)

    def by_place(self, title, a, values, aimed, more):
        """add, load and store."""
        if aimed:
            hold(values[1] == high(*aimed[1:]))
            place = aimed
        else:
            hold(kind(values[1]) in ("word", "at"))
            place = self.plus(values[1], more)
        if title == "add":
            self.registers[a] = place
            return
        hold(self.within(place))
        if title == "load":
            hold(self.there(*place[1:])[0] == "value")
            self.registers[a] = self.there(*place[1:])[1]
            return
        sort, words, fills = self.stretches[place[1:3]]
        hold(sort == "data")
        words[place[3]] = values[0]
        fills.pop(place[3], None)

    def words_alone(self, one, two):
        hold((kind(one), kind(two)) == ("word", "word"))

    def both(self, one, two):
        self.words_alone(one, two)
        return one & two

    def odd(self, one, two):
        self.words_alone(one, two)
        return one ^ two

    def turn(self, one, two):
        self.words_alone(one, two)
        bits = f"{one:032b}"
        return int(bits[32 - two % 32:] + bits[:32 - two % 32], 2)

    def sum(self, one, two):
        hold({kind(one), kind(two)} <= {"word", "at"} and "word" in (kind(one), kind(two)))
        return self.plus(one, two) if kind(two) == "word" else self.plus(two, one)

    def less(self, one, two):
        if kind(two) == "word":
            hold(kind(one) in ("word", "at"))
            return self.plus(one, -two)
        hold((kind(one), kind(two)) == ("at", "at") and one[1:3] == two[1:3])
        return (one[3] - two[3]) % WORDS

    def same(self, one, two):
        kinds = (kind(one), kind(two))
        if kinds == ("word", "word"):
            return one == two
        if kinds == ("at", "at") and one[1:3] == two[1:3]:
            return one[3] == two[3]
        hold("high" not in kinds)
        for value in (one, two):
            hold(value == 0 or kind(value) == "at" and self.within(value))
        return False

    def under(self, one, two):
        if (kind(one), kind(two)) == ("word", "word"):
            return one < two
        hold((kind(one), kind(two)) == ("at", "at") and one[1:3] == two[1:3])
        hold(one[3] <= self.many(one) and two[3] <= self.many(two))
        return one[3] < two[3]


class NamedTest(unittest.TestCase):
    def assert_value(self, value):
        """That a value is a plain one, of the kinds that point 41 tells."""
        if kind(value) == "word":
            self.assertIs(type(value), int)
            self.assertTrue(0 <= value < WORDS)
        else:
            self.assertIs(type(value), tuple)
            self.assertEqual(list(map(type, value)), [str, str, int, int])
            self.assertIn(value[0], ("at", "high"))
            self.assertTrue(0 <= value[3] < WORDS)

    def assert_state(self, machine, place, registers, numbers=(), ended=False):
        state = machine.state()
        self.assertEqual(state, (place, list(registers), list(numbers), ended))
        self.assertIs(type(state), tuple)
        self.assertIs(type(state[3]), bool)
        for value in [state[0]] + state[1] + state[2]:
            self.assert_value(value)

    def all_there(self, machine, pieces):
        """What value_at tells of each word of the pieces."""
        told = {}
        for name, stretches, names in pieces:
            for number, stretch in enumerate(stretches):
                for offset in range(len(stretch[2])):
                    value = machine.value_at(name, number, offset)
                    if value is not None:
                        self.assert_value(value)
                    told[name, number, offset] = value
        return told

    def assert_refused(self, machine, pieces=()):
        """The next step is refused, again and again, and nothing is changed by it."""
        before = machine.state(), self.all_there(machine, pieces)
        for time in range(3):
            with self.assertRaises(NoSense) as caught:
                machine.go_on()
            self.assertIsInstance(caught.exception, JoinError)
            self.assertEqual((machine.state(), self.all_there(machine, pieces)), before)

    def assert_steps(self, pieces, entry, registers, many=1):
        """Goes on beside the words of the document, as far as it gets; tells the machine, and how many steps it did."""
        machine, other = Named(pieces, [], entry, registers), Expected(pieces, entry, registers)
        self.assert_alike(machine, other, pieces)
        for step in range(many):
            told = other.go_on()
            if told is None:
                self.assert_refused(machine, pieces)
                return machine, step
            self.assertIs(machine.go_on(), told)
            self.assert_alike(machine, other, pieces)
        return machine, many

    def assert_alike(self, machine, other, pieces):
        self.assert_state(machine, *other.state())
        there = self.all_there(machine, pieces)
        self.assertEqual(there, {where: other.value_at(*where) for where in there})


class AtFirstTest(NamedTest):
    """Points 41, 42, 43 and 47: what is there at first."""

    def assert_first(self, word, fills, value, names=()):
        """Of the first word of a stretch of code and of one of data."""
        for make in (code, data):
            pieces = [("p", [make([word, 5], fills), data([7, 8])], [("main", "tell", 0, 0), *names])]
            machine = self.assert_steps(pieces, "main", [0] * 8, 0)[0]
            self.assertEqual(machine.value_at("p", 0, 0), value)
            self.assertEqual(machine.value_at("p", 0, 1), 5)
            self.assertEqual(self.all_there(machine, pieces), {("p", 0, 0): value, ("p", 0, 1): 5, ("p", 1, 0): 7,
                                                               ("p", 1, 1): 8})

    def test_words_without_a_fill(self):
        for word in (0, 1, 65535, 0xF0000000, TOP):
            self.assert_first(word, [], word)

    def test_soft_fills_that_aim_at_a_number(self):
        for add in (0, 1, 32767, 32768, 65535, 65536, 2147483647, -1, -32768, -32769, -2147483648):
            number = add % WORDS
            for word in (0, 0x12345678, TOP):
                upper = word // 65536 * 65536
                self.assert_first(word, [fill(0, "whole", "nobody", add, True)], number)
                self.assert_first(word, [fill(0, "low", "nobody", add, True)], upper + number % 65536)
                self.assert_first(word, [fill(0, "high", "nobody", add, True)],
                                  upper + (number + 32768) // 65536 % 65536)

    def test_fills_by_each_rule_that_aim_at_a_place(self):
        for soft in (False, True):
            self.assert_first(9, [fill(0, "whole", "x", 0, soft)], at("p", 1, 1), [("x", "tell", 1, 1)])
            self.assert_first(9, [fill(0, "high", "x", 0, soft)], None, [("x", "weak", 1, 1)])
            self.assert_first(9, [fill(0, "low", "x", 0, soft)], None, [("x", "own", 1, 1)])
        self.assert_first(9, [fill(0, "near", "x")], None, [("x", "own", 1, 1)])
        self.assert_first(9, [fill(0, "split", "x")], None, [("x", "tell", 1, 1)])

    def test_offsets_that_wrap(self):
        for offset, add, wrapped in [(0, 0, 0), (1, -1, 0), (0, -1, TOP), (1, -2, TOP), (2, -2147483648, 2 ** 31 + 2),
                                     (2, 2147483647, 2 ** 31 + 1), (2, 1, 3), (0, 77, 77)]:
            self.assert_first(9, [fill(0, "whole", "x", add)], ("at", "p", 1, wrapped), [("x", "tell", 1, offset)])

    def test_own_names_ahead_of_told_ones(self):
        pieces = [("p", [data([1, 1], [fill(0, "whole", "x", 3), fill(1, "whole", "y")])],
                   [("main", "tell", 0, 0), ("x", "own", 0, 1)]),
                  ("q", [data([2, 2], [fill(0, "whole", "x", 3), fill(1, "whole", "y", -4, True)])],
                   [("x", "tell", 0, 0), ("y", "own", 0, 2)]),
                  ("r", [data([3, 3, 3], [fill(0, "whole", "x"), fill(1, "low", "z", 8, True), fill(2, "whole", "y")])],
                   [("y", "weak", 0, 0), ("z", "own", 0, 0)]),
                  ("o", [data([4], [fill(0, "low", "z", 70000, True)])], [("y", "weak", 0, 1), ("x", "weak", 0, 1)])]
        for order in itertools.permutations(pieces):
            machine = self.assert_steps(list(order), "main", [0] * 8, 0)[0]
            self.assertEqual(self.all_there(machine, pieces), {
                ("p", 0, 0): at("p", 0, 4), ("p", 0, 1): at("o", 0, 1), ("q", 0, 0): at("q", 0, 3),
                ("q", 0, 1): at("q", 0, -2), ("r", 0, 0): at("q", 0, 0), ("r", 0, 1): None,
                ("r", 0, 2): at("o", 0, 1), ("o", 0, 0): 70000 % 65536})

    def test_the_entry(self):
        pieces = [("p", [code([0, 0]), code([0], [fill(0, "high", "deep")])],
                   [("main", "tell", 0, 1), ("behind", "weak", 0, 2), ("deep", "tell", 1, 0)]),
                  ("q", [data([0])], [("main", "weak", 0, 0), ("behind", "weak", 0, 0), ("other", "weak", 0, 0)])]
        for entry, place in [("main", at("p", 0, 1)), ("behind", at("p", 0, 2)), ("deep", at("p", 1, 0)),
                             ("other", at("q", 0, 0))]:
            for order in (pieces, pieces[::-1]):
                self.assert_state(Named(order, [], entry, [1] * 8), place, [1] * 8)
                self.assert_steps(order, entry, [0] * 8, 2)

    def test_registers_with_each_kind_of_value(self):
        pieces = [("p", [code([0]), data([])], [("main", "tell", 0, 0)]), ("q", [data([1, 2])], [])]
        registers = [0, TOP, at("p", 0, 0), at("p", 1, 5), at("q", 0, TOP), high("p", 0, 0), high("q", 0, 2 ** 31), 7]
        machine = Named(pieces, [], "main", registers)
        self.assert_state(machine, at("p", 0, 0), registers)
        self.assertIs(machine.go_on(), True)
        self.assert_state(machine, at("p", 0, 0), registers, [], True)

    def test_stretches_that_nobody_reaches(self):
        pieces = [("p", [code([0]), data([7, 8], [fill(1, "whole", "lonely")]), code([9])], [("main", "tell", 0, 0)]),
                  ("q", [data([3])], [("lonely", "tell", 0, 0)])]
        machine = self.assert_steps(pieces, "main", [0] * 8, 0)[0]
        self.assertEqual([machine.value_at("p", 1, 0), machine.value_at("p", 1, 1), machine.value_at("p", 2, 0),
                          machine.value_at("q", 0, 0)], [7, at("q", 0, 0), 9, 3])
        load = [("p", [code([deed("load", a=0, b=1)]), data([7])], [("main", "tell", 0, 0)])]
        machine = self.assert_steps(load, "main", [0, at("p", 1, 0), 0, 0, 0, 0, 0, 0])[0]
        self.assert_state(machine, at("p", 0, 1), [7, at("p", 1, 0), 0, 0, 0, 0, 0, 0])

    def test_pieces_taken_from_shelves(self):
        given = [("g", [code([deed("call", a=7), deed("end")], [fill(0, "near", "sub")])], [("main", "tell", 0, 0)])]
        first = ("s1", [code([deed("high", a=0), deed("load", a=0, b=0), deed("tell", a=0), deed("go", a=7)],
                             [fill(0, "high", "x"), fill(1, "low", "x")])], [("sub", "tell", 0, 0)])
        second = ("s2", [data([4, 6])], [("x", "weak", 0, 1)])
        # Not taken, since each comes second for what it tells; x would be told strongly there.
        others = [("s3", [data([5])], [("x", "tell", 0, 0)]), ("s4", [code([0])], [("sub", "tell", 0, 0)])]
        for shelves in ([[first, second] + others], [[first], [second], others], [[], [second, others[0]], [first]]):
            machine = Named(given, shelves, "main", [0] * 8)
            while machine.go_on():
                pass
            self.assert_state(machine, at("g", 0, 1), [6, 0, 0, 0, 0, 0, 0, at("g", 0, 1)], [6], True)
            self.assertEqual([machine.value_at("s2", 0, 0), machine.value_at("s2", 0, 1), machine.value_at("s1", 0, 0)],
                             [4, 6, None])
        entry = Named([], [[second]], "x", [0] * 8)
        self.assert_state(entry, at("s2", 0, 1), [0] * 8)

    def test_names_are_those_among_the_taken_pieces(self):
        """A soft fill's name that only a piece tells that was not taken."""
        given = [("g", [data([1], [fill(0, "whole", "x", 5, True)])], [("main", "tell", 0, 0)])]
        shelf = [("s", [data([2])], [("x", "tell", 0, 0), ("y", "tell", 0, 0)])]
        self.assertEqual(Named(given, [shelf], "main", [0] * 8).value_at("g", 0, 0), 5)
        wanting = given + [("w", [data([3], [fill(0, "low", "y")])], [])]
        self.assertEqual(Named(wanting, [shelf], "main", [0] * 8).value_at("g", 0, 0), at("s", 0, 5))

    def test_the_bounds(self):
        pieces = []
        for each in range(100):
            fills = [fill(place, RULES[place % 5], f"n{(each + place) % 100}_{place}", place) for place in range(1000)]
            names = [(f"n{each}_{place}", ("tell", "weak")[place % 2], place // 500, place) for place in range(1000)]
            pieces.append((f"p{each}", [code([deed("call")] * 1000, fills), data([each] * 1000, fills)], names))
        machine = Named(pieces[:1], [[piece] for piece in pieces[1:]], "n99_3", [0] * 8)
        self.assertIs(machine.go_on(), True)
        self.assert_state(machine, at("p2", 0, 6), [at("p99", 0, 4)] + [0] * 7)
        self.assertEqual(machine.value_at("p50", 1, 995), at("p45", 1, 1990))


class RefusedTest(NamedTest):
    """Point 47: the refusals when it is made, SameName ahead of Unmet ahead of Twice."""
    same = [("s", [], []), ("s", [], [])]
    unmet = ("u", [code([0], [fill(0, "low", "nobody")])], [])
    twice = [("t1", [code([0])], [("again", "tell", 0, 0)]), ("t2", [code([0])], [("again", "tell", 0, 0)])]
    main = ("m", [code([0], [fill(0, "near", "main", 10 ** 6)])], [("main", "tell", 0, 0), ("mine", "own", 0, 0)])

    def assert_not_made(self, error, parts, given, shelves, entry):
        with self.assertRaises(error) as caught:
            Named(given, shelves, entry, [0] * 8)
        for name, value in parts.items():
            self.assertEqual(getattr(caught.exception, name), value)

    def test_each_ahead_of_the_next(self):
        given = self.same + [self.unmet] + self.twice + [self.main]
        for order in (given, given[::-1]):
            self.assert_not_made(SameName, {"name": "s"}, order, [], "main")
            self.assert_not_made(SameName, {"name": "s"}, [], [order], "nowhere")
        for order in (given[2:], given[:1:-1]):
            self.assert_not_made(Unmet, {"name": "nobody", "piece": "u"}, order, [], "main")
        for order in (given[3:], given[:2:-1]):
            self.assert_not_made(Twice, {"name": "again", "one": "t1", "other": "t2"}, order, [], "main")

    def test_too_far_is_no_refusal_here(self):
        machine = Named([self.main], [], "main", [0] * 8)
        self.assert_refused(machine)

    def test_twice_among_the_taken_pieces_alone(self):
        self.assertEqual(Named([self.main], [self.twice], "main", [0] * 8).value_at("m", 0, 0), None)
        self.assert_not_made(Twice, {"name": "again"}, [self.main] + self.twice, [], "main")

    def test_the_entry(self):
        for entry in ("", "mine", "nobody", "Main", "m", "main ", "x" * 17, "a\nb"):
            self.assert_not_made(Unmet, {"name": entry, "piece": ""}, [self.main], [], entry)
            self.assert_not_made(Unmet, {"name": entry, "piece": ""}, [], [[self.main]], entry)
            self.assert_not_made(Unmet, {"name": entry, "piece": ""}, [], [], entry)
        self.assert_not_made(Unmet, {"name": "nobody", "piece": ""}, [self.main, self.unmet], [], "nobody")
        self.assert_not_made(Unmet, {"name": "nobody", "piece": "u"}, [self.main, self.unmet], [], "nowhere")


class PlaceReachedTest(NamedTest):
    """Point 43: where a step is refused for what is at the place reached."""

    def assert_no_step(self, stretches, entry_at, more=()):
        pieces = [("p", stretches, [("main", "tell", *entry_at), *more])]
        self.assert_refused(self.assert_steps(pieces, "main", [0] * 8, 0)[0], pieces)
        self.assertEqual(self.assert_steps(pieces, "main", [0] * 8, 1)[1], 0)

    def test_in_data(self):
        for word in (0, deed("put"), TOP):
            self.assert_no_step([data([word])], (0, 0))

    def test_at_the_end_and_in_an_empty_stretch(self):
        self.assert_no_step([code([0])], (0, 1))
        self.assert_no_step([code([0, 0]), code([0])], (0, 2))
        self.assert_no_step([code([]), code([0])], (0, 0))

    def test_beyond_the_end(self):
        for way in (1, 2, 100, -3, -262144):
            pieces = [("p", [code([0, deed("call", a=0, near=way)]), code([0])], [("main", "tell", 0, 1)])]
            machine, steps = self.assert_steps(pieces, "main", [0] * 8, 2)
            self.assertEqual(steps, 1)
            self.assert_state(machine, at("p", 0, 2 + way), [at("p", 0, 2)] + [0] * 7)
        pieces = [("p", [code([deed("go", a=3)])], [("main", "tell", 0, 0)])]
        for offset in (1, 2, 2 ** 31, TOP):
            machine, steps = self.assert_steps(pieces, "main", [at("p", 0, offset)] * 8, 2)
            self.assertEqual((steps, machine.state()[0]), (1, at("p", 0, offset)))

    def test_at_a_word_that_is_an_at_value(self):
        for word in (0, deed("put"), deed("go")):
            for soft in (False, True):
                self.assert_no_step([code([word, 0], [fill(0, "whole", "main", 1, soft)])], (0, 0))

    def test_at_a_word_that_was_filled_for_a_number(self):
        for rule, add, number in [("whole", deed("put", a=2, n=9), 9), ("low", 65536 + 9, 9), ("high", 9 * 65536, 9)]:
            pieces = [("p", [code([deed("put", a=2, n=77)], [fill(0, rule, "nobody", add, True)])],
                       [("main", "tell", 0, 0)])]
            machine = self.assert_steps(pieces, "main", [0] * 8)[0]
            self.assert_state(machine, at("p", 0, 1), [0, 0, number, 0, 0, 0, 0, 0])

    def test_each_deed_with_each_rules_fill(self):
        meant = {("high", "high"), ("add", "low"), ("load", "low"), ("store", "low"), ("same", "split"),
                 ("under", "split"), ("call", "near")}
        done = set()
        for title, rule in itertools.product(TITLES, RULES):
            for register in (0, high("p", 1, 1)):
                word = deed(title, a=1, b=2 if title in ("add", "load", "store") else 1, c=3, n=2)
                pieces = [("p", [code([word, 0], [fill(0, rule, "x")]), data([5, 6, 7])],
                           [("main", "tell", 0, 0), ("x", "own", 1, 1)])]
                machine, steps = self.assert_steps(pieces, "main", [0, 0, register, 0, 0, 0, 0, 0])
                if steps:
                    done.add((title, rule))
                if (title, rule) not in meant:
                    self.assertEqual(steps, 0, (title, rule))
                    self.assert_state(machine, at("p", 0, 0), [0, 0, register, 0, 0, 0, 0, 0])
        self.assertEqual(done, meant)

    def test_words_with_a_fill_whose_own_bits_are_of_no_account(self):
        """What a fill would change is not looked at."""
        for bits in (0, 0xFFFF, 0x1234):
            pieces = [("p", [code([deed("high", a=1) | bits, deed("load", a=2, b=1) | bits, deed("call", a=3) | bits],
                                  [fill(0, "high", "x", 1), fill(1, "low", "x", 1), fill(2, "near", "x")]),
                             data([5, 6])], [("main", "tell", 0, 0), ("x", "own", 1, 0)])]
            machine, steps = self.assert_steps(pieces, "main", [0] * 8, 5)
            self.assertEqual(steps, 3)
            self.assert_state(machine, at("p", 1, 0), [0, high("p", 1, 1), 6, at("p", 0, 3), 0, 0, 0, 0])


class DeedsTest(NamedTest):
    """Point 44, deed by deed; p has two stretches of data of three and two words, q one of two."""

    def pieces(self, word, fills=()):
        return [("p", [code([word, 0], fills), data([70, 71, 72], [fill(1, "whole", "y", 1), fill(2, "high", "y")]),
                       data([80, 81])], [("main", "tell", 0, 0), ("x", "own", 1, 0), ("z", "own", 2, 0)]),
                ("q", [data([90, 91])], [("y", "tell", 0, 0)])]

    def behind(self, word, fills=(), **changed):
        """The machine behind one step; registers are 0 but those that are told as r0 to r7. None for a refusal."""
        registers = [changed.get(f"r{each}", 0) for each in range(8)]
        machine, steps = self.assert_steps(self.pieces(word, fills), "main", registers)
        return machine if steps else None

    def assert_becomes(self, value, word, fills=(), **changed):
        """Register 1 becomes the value, or the step is refused where it is None."""
        machine = self.behind(word, fills, **changed)
        if value is None:
            self.assertIsNone(machine)
        else:
            registers = [changed.get(f"r{each}", 0) for each in range(8)]
            registers[1] = value
            self.assert_state(machine, at("p", 0, 1), registers)

    def assert_leads(self, place, word, fills=(), **changed):
        machine = self.behind(word, fills, **changed)
        if place is None:
            self.assertIsNone(machine)
        else:
            self.assertEqual(machine.state()[0], place)

    def test_end(self):
        machine = self.behind(deed("end") | 0xABCDEF, r1=at("p", 1, 1), r2=high("q", 0, 1))
        self.assert_state(machine, at("p", 0, 0), [0, at("p", 1, 1), high("q", 0, 1), 0, 0, 0, 0, 0], [], True)

    def test_tell(self):
        for word in (0, 1, TOP):
            self.assertEqual(self.behind(deed("tell", a=4), r4=word).state()[2], [word])
        for value in (at("p", 1, 1), at("p", 1, TOP), high("p", 1, 1)):
            self.assertIsNone(self.behind(deed("tell", a=4), r4=value))

    def test_put_and_high(self):
        for before in (5, at("p", 1, 1), high("p", 1, 1)):
            for n in (0, 1, 32767, 32768, 65535):
                self.assert_becomes(n, deed("put", a=1, n=n), r1=before)
                self.assert_becomes(65536 * n, deed("high", a=1, n=n), r1=before)
            self.assert_becomes(high("p", 1, 5), deed("high", a=1, n=9), [fill(0, "high", "x", 5)], r1=before)
        self.assert_becomes(high("p", 1, -1), deed("high", a=1), [fill(0, "high", "x", -1)])
        self.assert_becomes(high("q", 0, 0), deed("high", a=1), [fill(0, "high", "y", 0, True)])
        self.assert_becomes(0, deed("high", a=1, n=9), [fill(0, "high", "nobody", 0, True)])

    def test_add_without_a_fill(self):
        for n, more in [(0, 0), (1, 1), (32767, 32767), (32768, -32768), (65535, -1)]:
            for number in (0, 1, 5, 2 ** 31, TOP):
                self.assert_becomes((number + more) % WORDS, deed("add", a=1, b=2, n=n), r2=number)
                self.assert_becomes(at("p", 1, number + more), deed("add", a=1, b=2, n=n), r2=at("p", 1, number))
                self.assert_becomes(None, deed("add", a=1, b=2, n=n), r2=high("p", 1, number))
        self.assert_becomes(at("p", 1, TOP), deed("add", a=1, b=1, n=65535), r1=at("p", 1, 0))
        self.assert_becomes(at("q", 0, 0), deed("add", a=1, b=1, n=1), r1=at("q", 0, TOP))

    def test_add_with_a_fill(self):
        for add in (0, 2, -1, 2147483647, -2147483648):
            fills = [fill(0, "low", "x", add)]
            self.assert_becomes(at("p", 1, add), deed("add", a=1, b=2, n=9), fills, r2=high("p", 1, add))
            self.assert_becomes(at("p", 1, add), deed("add", a=1, b=1), fills, r1=high("p", 1, add))
            for other in (high("p", 1, add + 1), high("p", 1, add - 1), high("p", 2, add), high("q", 0, add),
                          high("p", 0, add), at("p", 1, add), 0, 65536, add % WORDS):
                self.assert_becomes(None, deed("add", a=1, b=2), fills, r2=other)
        self.assert_becomes(at("q", 0, 3), deed("add", a=1, b=2), [fill(0, "low", "y", 3, True)], r2=high("q", 0, 3))
        self.assert_becomes(12, deed("add", a=1, b=2, n=9), [fill(0, "low", "nobody", 5, True)], r2=7)
        self.assert_becomes(None, deed("add", a=1, b=2), [fill(0, "low", "nobody", 5, True)], r2=high("q", 0, 5))

    def test_load(self):
        word = deed("load", a=1, b=2)
        for value, there in [(70, at("p", 1, 0)), (at("q", 0, 1), at("p", 1, 1)), (None, at("p", 1, 2)),
                             (81, at("p", 2, 1)), (word, at("p", 0, 0)), (0, at("p", 0, 1)), (91, at("q", 0, 1)),
                             (None, at("p", 1, 3)),
                             (None, at("q", 0, 2)), (None, at("p", 0, 2)), (None, at("p", 1, -1)), (None, 0), (None, 5),
                             (None, high("p", 1, 0)), (None, high("q", 0, 0))]:
            self.assert_becomes(value, word, r2=there)
        for offset, n, value in [(0, 1, 81), (2, 65535, 81), (TOP, 1, 80), (TOP, 2, 81), (1, 1, None), (0, 65535, None),
                                 (32768, 32768, 80), (WORDS - 32767, 32767, 80), (WORDS - 32766, 32767, 81)]:
            self.assert_becomes(value, deed("load", a=1, b=2, n=n), r2=at("p", 2, offset))
        self.assert_becomes(80, deed("load", a=1, b=1), r1=at("p", 2, 0))

    def test_load_with_a_fill(self):
        word = deed("load", a=1, b=2, n=3)
        for name, add, value in [("x", 0, 70), ("x", 1, at("q", 0, 1)), ("x", 2, None), ("x", 3, None), ("x", -1, None),
                                 ("y", 1, 91), ("y", 2, None), ("main", 1, 0), ("main", 0, None)]:
            place = {"x": ("p", 1, add), "y": ("q", 0, add), "main": ("p", 0, add)}[name]
            self.assert_becomes(value, word, [fill(0, "low", name, add)], r2=high(*place))
            for other in (high(place[0], place[1], add + 1), high(place[0], place[1], add - 1), high("p", 2, add),
                          at(*place), 0):
                self.assert_becomes(None, word, [fill(0, "low", name, add)], r2=other)

    def test_load_of_each_kind_of_value_that_was_stored(self):
        for value in (0, TOP, at("p", 1, 1), at("p", 1, TOP), high("q", 0, 1), high("p", 0, 9)):
            pieces = [("p", [code([deed("store", a=1, b=2, n=1), deed("load", a=3, b=2, n=1), 0]), data([1, 2]),
                             ("data", 1, [1], [])], [("main", "tell", 0, 0)]), ("q", [data([1, 2])], [])]
            there = at("p", 1, 0)
            machine, steps = self.assert_steps(pieces, "main", [0, value, there, 0, 0, 0, 0, 0], 3)
            self.assertEqual(steps, 3)
            self.assert_state(machine, at("p", 0, 2), [0, value, there, value, 0, 0, 0, 0], [], True)
            self.assertEqual([machine.value_at("p", 1, 0), machine.value_at("p", 1, 1)], [1, value])

    def test_load_of_a_word_with_a_fill_in_code_and_in_data(self):
        for stretch, value in [(0, None), (1, None), (2, at("p", 0, 1)), (3, at("p", 0, 1)), (4, 4), (5, 4)]:
            rule = ("low", "low", "whole", "whole", "low", "low")[stretch]
            name = ("main", "main", "main", "main", "nobody", "nobody")[stretch]
            there = (code, data)[stretch % 2]([0], [fill(0, rule, name, (1, 1, 1, 1, 4, 4)[stretch], True)])
            pieces = [("p", [code([deed("load", a=1, b=2)]), there], [("main", "tell", 0, 0)])]
            machine, steps = self.assert_steps(pieces, "main", [0, 0, at("p", 1, 0), 0, 0, 0, 0, 0])
            self.assertEqual(machine.state()[1][1] if steps else None, value)

    def test_store(self):
        word = deed("store", a=1, b=2)
        for value in (0, TOP, at("p", 1, 1), at("q", 0, TOP), high("q", 0, 1)):
            for stored, there in [(True, ("p", 1, 0)), (True, ("p", 1, 1)), (True, ("p", 1, 2)), (True, ("q", 0, 1)),
                                  (False, ("p", 0, 0)), (False, ("p", 0, 1)), (False, ("p", 1, 3)),
                                  (False, ("p", 2, 2)), (False, ("q", 0, TOP))]:
                machine = self.behind(word, r1=value, r2=at(*there))
                self.assertEqual(machine is not None, stored)
                if stored:
                    self.assertEqual(machine.value_at(*there), value)
                    self.assertEqual(machine.state()[0], at("p", 0, 1))
                self.assertIsNone(self.behind(word, r1=value, r2=high(*there)))
            for number in (0, 1, TOP):
                self.assertIsNone(self.behind(word, r1=value, r2=number))
        machine = self.behind(deed("store", a=1, b=2, n=65535), r1=5, r2=at("p", 2, 2))
        self.assertEqual([machine.value_at("p", 2, 0), machine.value_at("p", 2, 1)], [80, 5])
        machine = self.behind(deed("store", a=2, b=2), r2=at("p", 2, 1))
        self.assertEqual(machine.value_at("p", 2, 1), at("p", 2, 1))

    def test_store_with_a_fill(self):
        word = deed("store", a=1, b=2, n=7)
        for name, add, place, stored in [("x", 0, ("p", 1, 0), True), ("x", 2, ("p", 1, 2), True),
                                         ("x", 3, ("p", 1, 3), False), ("y", 1, ("q", 0, 1), True),
                                         ("main", 1, ("p", 0, 1), False), ("y", -1, ("q", 0, TOP), False)]:
            for value in (3, at("p", 1, 0), high("p", 1, 0)):
                machine = self.behind(word, [fill(0, "low", name, add)], r1=value, r2=high(*place))
                self.assertEqual(machine is not None, stored)
                if stored:
                    self.assertEqual(machine.value_at(*place), value)
                for other in (high(place[0], place[1], add + 1), at(*place), 0, high("p", 2, add)):
                    self.assertIsNone(self.behind(word, [fill(0, "low", name, add)], r1=value, r2=other))

    def test_store_on_a_word_with_a_fill(self):
        """It is gone then, and what is loaded there is what was stored."""
        for rule, value in itertools.product(RULES, (7, at("p", 1, 0), high("p", 1, 0))):
            pieces = [("p", [code([deed("load", a=4, b=2), deed("store", a=1, b=2), deed("load", a=3, b=2), 0]),
                             data([5], [fill(0, rule, "main")])], [("main", "tell", 0, 0), ("on", "tell", 0, 1)])]
            registers = [0, value, at("p", 1, 0), 0, 0, 0, 0, 0]
            self.assertEqual(self.assert_steps(pieces, "main", registers, 9)[1], 9 if rule == "whole" else 0)
            machine, steps = self.assert_steps(pieces, "on", registers, 9)
            self.assertEqual((steps, machine.state()[1][3], machine.value_at("p", 1, 0)), (9, value, value))

    def test_both_odd_and_turn(self):
        for title, result in [("both", 8), ("odd", 6), ("turn", 12 * 2 ** 22)]:
            self.assert_becomes(result, deed(title, a=1, b=2, c=3), r2=12, r3=10)
            for value in (at("p", 1, 1), high("p", 1, 1)):
                self.assert_becomes(None, deed(title, a=1, b=2, c=3), r2=value, r3=0)
                self.assert_becomes(None, deed(title, a=1, b=2, c=3), r2=0, r3=value)
                self.assert_becomes(None, deed(title, a=1, b=2, c=2), r2=value)
        self.assert_becomes(0x80000001, deed("turn", a=1, b=2, c=3), r2=3, r3=33)

    def test_sum(self):
        word = deed("sum", a=1, b=2, c=3)
        for offset, number in itertools.product((0, 1, 5, 2 ** 31, TOP), (0, 1, 5, 2 ** 31, TOP)):
            self.assert_becomes((offset + number) % WORDS, word, r2=offset, r3=number)
            self.assert_becomes(at("p", 1, offset + number), word, r2=at("p", 1, offset), r3=number)
            self.assert_becomes(at("p", 1, offset + number), word, r2=number, r3=at("p", 1, offset))
            self.assert_becomes(None, word, r2=at("p", 1, offset), r3=at("p", 1, number))
            self.assert_becomes(None, word, r2=high("p", 1, offset), r3=number)
            self.assert_becomes(None, word, r2=number, r3=high("p", 1, offset))
            self.assert_becomes(None, word, r2=at("p", 1, offset), r3=high("p", 1, offset))
            self.assert_becomes(None, word, r2=high("p", 1, offset), r3=at("p", 1, offset))
            self.assert_becomes(None, word, r2=high("p", 1, offset), r3=high("p", 1, offset))
        self.assert_becomes(None, deed("sum", a=1, b=2, c=2), r2=at("p", 1, 0))
        self.assert_becomes(14, deed("sum", a=1, b=2, c=2), r2=7)

    def test_less(self):
        word = deed("less", a=1, b=2, c=3)
        for one, two in itertools.product((0, 1, 2, 3, 4, 2 ** 31, TOP), repeat=2):
            self.assert_becomes((one - two) % WORDS, word, r2=one, r3=two)
            self.assert_becomes(at("p", 1, one - two), word, r2=at("p", 1, one), r3=two)
            self.assert_becomes(None, word, r2=one, r3=at("p", 1, two))
            self.assert_becomes((one - two) % WORDS, word, r2=at("p", 1, one), r3=at("p", 1, two))
            for other in (at("p", 2, two), at("q", 0, two), at("p", 0, two), high("p", 1, two)):
                self.assert_becomes(None, word, r2=at("p", 1, one), r3=other)
            self.assert_becomes(None, word, r2=high("p", 1, one), r3=two)
            self.assert_becomes(None, word, r2=high("p", 1, one), r3=at("p", 1, two))
            self.assert_becomes(None, word, r2=high("p", 1, one), r3=high("p", 1, two))
        self.assert_becomes(0, deed("less", a=1, b=2, c=2), r2=at("q", 0, 77))
        self.assert_becomes(None, deed("less", a=1, b=2, c=2), r2=high("q", 0, 0))

    def test_same_of_words_and_of_places_of_one_stretch(self):
        word, went, stayed = deed("same", a=2, b=3, split=5), at("p", 0, 6), at("p", 0, 1)
        for one, two in itertools.product((0, 1, 2, 3, 4, 2 ** 31, TOP), repeat=2):
            way = went if one == two else stayed
            self.assert_leads(way, word, r2=one, r3=two)
            for stretch in (("p", 1), ("q", 0), ("p", 0)):
                self.assert_leads(way, word, r2=at(*stretch, one), r3=at(*stretch, two))
                self.assert_leads(None, word, r2=high(*stretch, one), r3=high(*stretch, two))
                self.assert_leads(None, word, r2=at(*stretch, one), r3=high(*stretch, two))
                self.assert_leads(None, word, r2=high(*stretch, one), r3=at(*stretch, two))

    def test_same_of_places_of_unlike_stretches(self):
        word, stayed = deed("same", a=2, b=3, split=5), at("p", 0, 1)
        many = {("p", 0): 2, ("p", 1): 3, ("p", 2): 2, ("q", 0): 2}
        for one, two in itertools.permutations(many, 2):
            for first, second in itertools.product((0, 1, 2, 3, 4, TOP), repeat=2):
                way = stayed if first < many[one] and second < many[two] else None
                self.assert_leads(way, word, r2=at(*one, first), r3=at(*two, second))

    def test_same_of_a_place_and_a_word(self):
        word, stayed = deed("same", a=2, b=3, split=5), at("p", 0, 1)
        for stretch, many in [(("p", 0), 2), (("p", 1), 3), (("q", 0), 2)]:
            for offset in (0, 1, 2, 3, 4, 2 ** 31, TOP):
                way = stayed if offset < many else None
                self.assert_leads(way, word, r2=at(*stretch, offset), r3=0)
                self.assert_leads(way, word, r2=0, r3=at(*stretch, offset))
                self.assert_leads(None, word, r2=high(*stretch, offset), r3=0)
                self.assert_leads(None, word, r2=0, r3=high(*stretch, offset))
                for number in (1, offset or 1, 65536, TOP):
                    self.assert_leads(None, word, r2=at(*stretch, offset), r3=number)
                    self.assert_leads(None, word, r2=number, r3=at(*stretch, offset))

    def test_under(self):
        word, went, stayed = deed("under", a=2, b=3, split=5), at("p", 0, 6), at("p", 0, 1)
        for one, two in itertools.product((0, 1, 2, 3, 4, 2 ** 31, TOP), repeat=2):
            way = went if one < two else stayed
            self.assert_leads(way, word, r2=one, r3=two)
            for stretch, many in [(("p", 0), 2), (("p", 1), 3), (("q", 0), 2)]:
                fits = one <= many and two <= many
                self.assert_leads(way if fits else None, word, r2=at(*stretch, one), r3=at(*stretch, two))
                self.assert_leads(None, word, r2=at(*stretch, one), r3=two)
                self.assert_leads(None, word, r2=one, r3=at(*stretch, two))
                self.assert_leads(None, word, r2=high(*stretch, one), r3=high(*stretch, two))
            self.assert_leads(None, word, r2=at("p", 1, one), r3=at("p", 2, two))
            self.assert_leads(None, word, r2=at("p", 1, one), r3=at("q", 0, two))

    def test_same_and_under_of_one_register(self):
        for value, same, under in [(5, 6, 1), (at("p", 1, 1), 6, 1), (at("p", 1, 4), 6, None),
                                   (high("p", 1, 1), None, None)]:
            self.assert_leads(same and at("p", 0, same), deed("same", a=2, b=2, split=5), r2=value)
            self.assert_leads(under and at("p", 0, under), deed("under", a=2, b=2, split=5), r2=value)

    def test_ways_without_a_fill(self):
        for split in (0, 1, -1, -2, 127, 128, -129, 2047, -2048):
            for title, two in (("same", 1), ("under", 2)):
                word = deed(title, a=2, b=3, split=split)
                self.assert_leads(at("p", 0, 1 + split), word, r2=1, r3=two)
                self.assert_leads(at("p", 0, 1), word, r2=2, r3=1)

    def test_ways_with_a_fill(self):
        for name, add, place in [("main", 0, ("p", 0, 0)), ("main", 5, ("p", 0, 5)), ("x", -1, ("p", 1, -1)),
                                 ("y", 2147483647, ("q", 0, 2147483647)), ("y", 0, ("q", 0, 0))]:
            for title in ("same", "under"):
                word = deed(title, a=2, b=3, split=77)
                fills = [fill(0, "split", name, add)]
                self.assert_leads(at(*place), word, fills, r2=1, r3=1 + (title == "under"))
                self.assert_leads(at("p", 0, 1), word, fills, r2=2, r3=1)
                self.assert_leads(None, word, fills, r2=at("p", 1, 0), r3=1)
            machine = self.behind(deed("call", a=1, near=77), [fill(0, "near", name, add)])
            self.assert_state(machine, at(*place), [0, at("p", 0, 1), 0, 0, 0, 0, 0, 0])

    def test_call_without_a_fill(self):
        for near in (0, 1, -1, -2, 131072, 262143, -262144):
            for before in (0, at("q", 0, 0), high("q", 0, 0)):
                machine = self.behind(deed("call", a=1, near=near), r1=before)
                self.assert_state(machine, at("p", 0, 1 + near), [0, at("p", 0, 1), 0, 0, 0, 0, 0, 0])

    def test_go(self):
        for place in (at("p", 0, 1), at("p", 0, 0), at("p", 1, 0), at("q", 0, 9), at("p", 0, TOP)):
            self.assert_leads(place, deed("go", a=5), r5=place)
        for value in (0, 1, 100, TOP, high("p", 0, 1), high("p", 0, 0)):
            self.assert_leads(None, deed("go", a=5), r5=value)

    def test_where_a_deed_leads_is_looked_at_by_the_next_step(self):
        for place in (at("p", 1, 0), at("p", 0, 2), at("q", 0, TOP), at("p", 0, 77)):
            machine, steps = self.assert_steps(self.pieces(deed("go", a=5)), "main", [place] * 8, 2)
            self.assertEqual((steps, machine.state()[0]), (1, place))


class EachKindTest(NamedTest):
    """Each deed with each kind of value in each of its registers, without a fill and with one by each rule."""

    def test_all(self):
        values = [0, 1, TOP, at("p", 0, 0), at("p", 1, 0), at("p", 1, 1), at("p", 1, 2), at("p", 1, TOP), at("q", 0, 0),
                  at("q", 0, 1), high("p", 1, 1), high("p", 1, 0), high("q", 0, 0)]
        done = {title: 0 for title in TITLES}
        fills = [[]] + [[fill(0, rule, "x", 1)] for rule in RULES]
        for title, given, one, two in itertools.product(TITLES, fills, values, values):
            # a, b and c so that one and two stand in the two registers that the deed looks at.
            word = deed(title, a=2, b=2, c=3) if title in TITLES[7:12] else deed(title, a=2, b=3, n=1)
            pieces = [("p", [code([word], given), data([5, 6])], [("main", "tell", 0, 0), ("x", "own", 1, 0)]),
                      ("q", [data([7])], [])]
            done[title] += self.assert_steps(pieces, "main", [0, 0, one, two, 0, 0, 0, 0])[1]
        every = len(values) ** 2
        self.assertEqual([done[title] for title in ("end", "tell", "put", "high", "call", "go")],
                         [every, 3 * 13, every, 2 * every, 2 * every, 7 * 13])
        self.assertEqual([done[title] for title in ("both", "odd", "turn")], [9, 9, 9])
        self.assertEqual(done["sum"], 9 + 2 * 3 * 7)
        self.assertEqual(done["less"], 9 + 7 * 3 + 1 + 16 + 4)

    def test_each_register(self):
        values = [3, at("p", 1, 0), high("p", 1, 1), 0, at("p", 1, 1), at("q", 0, 0), 7, at("p", 0, 0)]
        for title, a, b, c in itertools.product(TITLES, range(8), range(8), range(8)):
            word = deed(title, a=a, b=b, c=c)
            pieces = [("p", [code([word, 0]), data([5, 6])], [("main", "tell", 0, 0)]), ("q", [data([7])], [])]
            self.assert_steps(pieces, "main", values)


class EndedTest(NamedTest):
    def test_true_once_and_false_from_there_on(self):
        pieces = [("p", [code([deed("tell", a=1), deed("store", a=2, b=2), deed("end")]), data([5])],
                   [("main", "tell", 0, 0)])]
        registers = [0, 6, at("p", 1, 0), high("p", 0, 0), 0, 0, 0, 0]
        machine = Named(pieces, [], "main", registers)
        self.assertEqual([machine.go_on() for step in range(6)], [True, True, True, False, False, False])
        self.assert_state(machine, at("p", 0, 2), registers, [6], True)
        self.assertEqual(machine.value_at("p", 1, 0), at("p", 1, 0))
        self.assertEqual(machine.value_at("p", 0, 2), 0)

    def test_a_refusal_is_no_end(self):
        pieces = [("p", [code([deed("go", a=1), deed("end")])], [("main", "tell", 0, 0)])]
        machine = Named(pieces, [], "main", [0] * 8)
        self.assert_refused(machine, pieces)
        self.assertIs(machine.state()[3], False)


class ManyStepsTest(NamedTest):
    def test_a_chain_of_places(self):
        """Walks a chain of pairs, (number, next one), to the one whose next is 0."""
        words = [deed("high", a=1), deed("add", a=1, b=1), deed("same", a=1, b=0), deed("load", a=2, b=1),
                 deed("tell", a=2), deed("store", a=0, b=1), deed("load", a=1, b=1, n=1), deed("same", a=0, b=0),
                 deed("end")]
        fills = [fill(0, "high", "chain"), fill(1, "low", "chain"), fill(2, "split", "main", 8),
                 fill(7, "split", "main", 2)]
        chain = data([11, 0, 22, 0, 33, 0], [fill(1, "whole", "chain", 4), fill(5, "whole", "chain", 2)])
        pieces = [("p", [code(words, fills)], [("main", "tell", 0, 0)]), ("q", [chain], [("chain", "tell", 0, 0)])]
        machine, steps = self.assert_steps(pieces, "main", [0] * 8, 40)
        self.assertEqual(machine.state()[2:], ([11, 33, 22], True))
        self.assertEqual([machine.value_at("q", 0, offset) for offset in range(6)],
                         [0, at("q", 0, 4), 0, 0, 0, at("q", 0, 2)])

    def test_drawn_at_will(self):
        drawn = 2024
        steps = 0
        for program in range(300):
            numbers = []
            for each in range(40):
                drawn = (drawn * 6364136223846793005 + 1442695040888963407) % 2 ** 64
                numbers.append(drawn >> 33)
            words = [number & 0xFF80003 | (number >> 8) % 15 + 1 << 28 for number in numbers[:24]]
            pieces = [("p", [code(words[:12]), data(words[12:16]), code(words[16:20])], [("main", "tell", 0, 0)]),
                      ("q", [data(words[20:])], [])]
            places = [("p", 0), ("p", 1), ("p", 2), ("q", 0)]
            registers = [number % 4 for number in numbers[-8:]]
            for each in range(program % 8):
                registers[each] = at(*places[(program + each) % 4], registers[each])
            steps += self.assert_steps(pieces, "main", registers, 30)[1]
        self.assertGreater(steps, 400)


class OwnCopiesTest(NamedTest):
    def asked(self):
        words = [deed("store", a=0, b=1), deed("load", a=3, b=1), deed("high", a=4), deed("call", a=5),
                 deed("put", a=0, n=5), deed("tell", a=0), deed("end")]
        given = [("p", [code(words, [fill(2, "high", "x"), fill(3, "near", "main", 4)]),
                        data([1, 2], [fill(1, "whole", "x", 3)])], [("main", "tell", 0, 0), ("here", "own", 1, 0)])]
        shelves = [[("q", [data([8], [fill(0, "low", "main")])], [("x", "weak", 0, 0)])], []]
        return [given, shelves, "main", [high("q", 0, 5), at("p", 1, 0), 0, 0, 0, 0, 0, 7]]

    def answers(self, machine):
        """All that a machine tells on its way to the end."""
        told = []
        going = True
        while going:
            told.append((machine.state(), [machine.value_at("p", 1, each) for each in (0, 1)],
                         machine.value_at("q", 0, 0)))
            going = machine.go_on()
        return told

    def change(self, asked):
        for name, stretches, names in asked[0] + asked[1][0]:
            for sort, step, words, fills in stretches:
                words[:] = [0] * len(words)
                fills.clear()
            stretches.pop()
            names.clear()
        asked[0].clear()
        asked[1][0].clear()
        asked[1].clear()
        asked[3][0] = 99
        asked[3].pop()

    def test_nothing_handed_in_is_changed(self):
        asked = self.asked()
        told = self.answers(Named(*asked))
        self.assertEqual(len(told), 8)
        self.assertEqual(told[-1][0][2:], ([5], True))
        self.assertEqual(asked, self.asked())

    def test_nothing_handed_in_is_changed_by_a_refusal(self):
        for more, refusal in [(("q", [], []), SameName), (("z", [code([0], [fill(0, "low", "gone")])], []), Unmet),
                              (("z", [code([0])], [("main", "tell", 0, 0)]), Twice)]:
            asked = self.asked()
            asked[0].append(more)
            before = copy.deepcopy(asked)
            with self.assertRaises(refusal):
                Named(*asked)
            self.assertEqual(asked, before)
        asked = self.asked()
        asked[3][1] = 0
        before = copy.deepcopy(asked)
        self.assert_refused(Named(*asked))
        self.assertEqual(asked, before)

    def test_changing_what_was_handed_in_changes_no_answer(self):
        expected = self.answers(Named(*self.asked()))
        asked = self.asked()
        machine = Named(*asked)
        self.change(asked)
        self.assertEqual(self.answers(machine), expected)
        asked = self.asked()
        machine = Named(*asked)
        machine.go_on()
        self.change(asked)
        self.assertEqual(self.answers(machine), expected[1:])

    def test_two_machines_of_the_same_pieces(self):
        asked = self.asked()
        first, second = Named(*asked), Named(*asked)
        expected = self.answers(first)
        self.assertEqual(self.answers(second), expected)
        self.assertEqual(self.answers(Named(*asked)), expected)

    def test_what_state_tells_is_the_askers_own(self):
        machine, other = Named(*self.asked()), Named(*self.asked())
        for step in range(8):
            told = machine.state()
            before = copy.deepcopy(told)
            again = machine.state()
            self.assertIsNot(told[0], again[0])
            for one, other_one in zip(told[1], again[1]):
                self.assertTrue(isinstance(one, int) or one is not other_one)
            told[1][0] = 99
            told[1].append(5)
            told[2].append(6)
            self.assertEqual(machine.state(), before)
            self.assertEqual(again, before)
            self.assertEqual(machine.state(), other.state())
            machine.go_on()
            other.go_on()
            self.assertEqual(again, before)
        self.assertIs(machine.state()[3], True)

    def test_values_are_told_anew(self):
        asked = self.asked()
        machine = Named(*asked)
        self.assertEqual(machine.state()[1], asked[3])
        self.assertIsNot(machine.state()[1][0], asked[3][0])
        self.assertIsNot(machine.value_at("p", 1, 1), machine.value_at("p", 1, 1))

    def test_beyond_the_end_nothing_is_refused(self):
        machine = Named(*self.asked())
        for offset in (-1, 2, 3, TOP):
            self.assertIsNone(machine.value_at("p", 1, offset))

    def test_asking_changes_nothing(self):
        expected = self.answers(Named(*self.asked()))
        machine = Named(*self.asked())
        for offset in range(7):
            machine.value_at("p", 0, offset)
        self.assertEqual(machine.value_at("p", 0, 2), None)
        self.assertEqual(self.answers(machine), expected)


if __name__ == "__main__":
    unittest.main()
