"""Points 36 to 40: the machine over words; and point 2 of it."""
import copy
import itertools
import unittest

from joinload.errors import JoinError, Lost
from joinload.joining import joined
from joinload.loading import loaded, start_of
from joinload.machine import Machine

WORDS = 2 ** 32
TOP = WORDS - 1
TITLES = "end tell put high add load store sum less both odd turn same under call go".split()
# Which bits each deed has a use for, beside its number; of same and under those of split.
USED = {"end": [], "tell": ["a"], "put": ["a", "n"], "high": ["a", "n"], "add": ["a", "b", "n"],
        "load": ["a", "b", "n"], "store": ["a", "b", "n"], "sum": ["a", "b", "c"], "less": ["a", "b", "c"],
        "both": ["a", "b", "c"], "odd": ["a", "b", "c"], "turn": ["a", "b", "c"], "same": ["a", "b", "split"],
        "under": ["a", "b", "split"], "call": ["a", "near"], "go": ["a"]}
BITS = {"a": [25, 26, 27], "b": [22, 23, 24], "c": [19, 20, 21], "n": list(range(16)), "near": list(range(19)),
        "split": [0, 1, 2, 3, 4, 5, 6, 14, 15, 16, 17, 18]}
EDGES = (0, 1, 2, 31, 32, 33, 32767, 32768, 65535, 65536, 2 ** 31 - 1, 2 ** 31, 2 ** 31 + 1, TOP - 1, TOP)


def deed(title, **parts):
    """The word of a deed; what is not told of it is 0."""
    word = TITLES.index(title) << 28
    for part, number in parts.items():
        for place, bit in enumerate(BITS[part]):
            word |= (number >> place & 1) << bit
    return word


def bits_unused(title):
    used = {bit for part in USED[title] for bit in BITS[part]} | {28, 29, 30, 31}
    return [bit for bit in range(32) if bit not in used]


def minus(bits):
    """The number that the bits write, the first one counting below 0."""
    return int(bits, 2) - (2 ** len(bits) if bits[0] == "1" else 0)


class Expected:
    """Point 36 by the words' bits as text, the highest one first; a Lost is told as ("lost", place)."""

    def __init__(self, memory, start, registers):
        self.memory, self.at, self.registers, self.numbers, self.ended = dict(memory), start, list(registers), [], False

    def state(self):
        return self.at, list(self.registers), list(self.numbers), self.ended

    def go_on(self):
        if self.ended:
            return False
        if self.at not in self.memory:
            return "lost", self.at
        bits = f"{self.memory[self.at]:032b}"
        title = TITLES[int(bits[:4], 2)]
        a, b, c = int(bits[4:7], 2), int(bits[7:10], 2), int(bits[10:13], 2)
        n, s, near, split = int(bits[16:], 2), minus(bits[16:]), minus(bits[13:]), minus(bits[13:18] + bits[25:])
        one, two, three = self.registers[a], self.registers[b], self.registers[c]
        following = (self.at + 1) % WORDS
        looked = (two + s) % WORDS
        if title in ("load", "store") and looked not in self.memory:
            return "lost", looked
        turn = three % 32
        turned = f"{two:032b}"[32 - turn:] + f"{two:032b}"[:32 - turn]
        results = {"put": n, "high": n * 65536, "add": looked, "load": self.memory.get(looked), "sum": two + three,
                   "less": two - three, "both": two & three, "odd": two ^ three, "turn": int(turned, 2),
                   "call": following}
        ways = {"same": following + split * (one == two), "under": following + split * (one < two),
                "call": following + near, "go": one, "end": self.at}
        if title == "tell":
            self.numbers.append(one)
        if title == "store":
            self.memory[looked] = one
        if title in results:
            self.registers[a] = results[title] % WORDS
        self.at = ways.get(title, following) % WORDS
        self.ended = title == "end"
        return True


class MachineTest(unittest.TestCase):
    def assert_state(self, machine, place, registers, numbers=(), ended=False):
        state = machine.state()
        self.assertEqual(state, (place, list(registers), list(numbers), ended))
        self.assertIs(type(state), tuple)
        self.assertIs(type(state[3]), bool)
        for number in [state[0]] + state[1] + state[2]:
            self.assertIs(type(number), int)

    def assert_steps(self, memory, start, registers, many=1):
        """Goes on beside the words of the document, as far as it gets, and compares all of it with each step."""
        machine, other = Machine(memory, start, registers), Expected(memory, start, registers)
        self.assert_state(machine, *other.state())
        for step in range(many):
            told = other.go_on()
            if isinstance(told, tuple):
                self.assert_lost(machine, told[1])
                break
            self.assertIs(machine.go_on(), told)
            self.assert_state(machine, *other.state())
        for place in list(memory) + [place % WORDS for near in memory for place in (near - 1, near + 1)]:
            self.assertEqual(machine.word_at(place), other.memory.get(place))
        return machine

    def assert_lost(self, machine, place):
        before = machine.state()
        for time in range(3):
            with self.assertRaises(Lost) as caught:
                machine.go_on()
            self.assertEqual(caught.exception.place, place)
            self.assertIs(type(caught.exception.place), int)
            self.assertIsInstance(caught.exception, JoinError)
            self.assertEqual(machine.state(), before)

    def after(self, word, registers=None, place=100, memory=None):
        """The machine behind one step of this word."""
        registers = registers or [10, 11, 12, 13, 14, 15, 16, 17]
        return self.assert_steps({**(memory or {}), place: word}, place, registers)


class DeedsTest(MachineTest):
    """Each deed by itself."""
    at_first = [10, 11, 12, 13, 14, 15, 16, 17]

    def registers(self, **changed):
        registers = list(self.at_first)
        for name, number in changed.items():
            registers[int(name[1:])] = number
        return registers

    def test_end(self):
        self.assert_state(self.after(deed("end")), 100, self.at_first, [], True)

    def test_tell(self):
        self.assert_state(self.after(deed("tell", a=3)), 101, self.at_first, [13])
        words = [deed("tell", a=7), deed("put", a=7, n=0), deed("tell", a=7), deed("tell", a=0), deed("tell", a=7)]
        machine = self.assert_steps(dict(enumerate(words)), 0, [TOP] + self.at_first[1:], 5)
        self.assert_state(machine, 5, self.registers(r0=TOP, r7=0), [17, 0, TOP, 0])

    def test_put_and_high(self):
        for a, n in itertools.product(range(8), (0, 1, 32767, 32768, 65535)):
            self.assert_state(self.after(deed("put", a=a, n=n)), 101, self.registers(**{f"r{a}": n}))
            self.assert_state(self.after(deed("high", a=a, n=n)), 101, self.registers(**{f"r{a}": 65536 * n}))

    def test_add(self):
        for n, more in [(0, 0), (1, 1), (32767, 32767), (32768, -32768), (65535, -1), (65534, -2)]:
            for number in EDGES:
                machine = self.after(deed("add", a=2, b=5, n=n), self.registers(r5=number))
                self.assert_state(machine, 101, self.registers(r2=(number + more) % WORDS, r5=number))
        self.assert_state(self.after(deed("add", a=4, b=4, n=65535)), 101, self.registers(r4=13))
        self.assert_state(self.after(deed("add", n=65535), self.registers(r0=0)), 101, self.registers(r0=TOP))
        self.assert_state(self.after(deed("add", n=1), self.registers(r0=TOP)), 101, self.registers(r0=0))

    def test_load(self):
        memory = {11: 5, 12: 6, 13: 7, 0: 8, TOP: 9, TOP - 1: 4}
        for b, n, word in [(1, 0, 5), (1, 1, 6), (3, 65535, 6), (3, 0, 7), (2, 65535, 5), (1, 65525, 8), (1, 65524, 9)]:
            machine = self.after(deed("load", a=6, b=b, n=n), memory=memory)
            self.assert_state(machine, 101, self.registers(r6=word))
        machine = self.after(deed("load", a=6, b=0, n=1), self.registers(r0=TOP), memory=memory)
        self.assert_state(machine, 101, self.registers(r0=TOP, r6=8))
        machine = self.after(deed("load", a=6, b=0, n=32767), self.registers(r0=TOP - 32767), memory=memory)
        self.assert_state(machine, 101, self.registers(r0=TOP - 32767, r6=9))
        machine = self.after(deed("load", a=6, b=0, n=32768), self.registers(r0=32767), memory=memory)
        self.assert_state(machine, 101, self.registers(r0=32767, r6=9))
        self.assert_state(self.after(deed("load", a=1, b=1), memory=memory), 101, self.registers(r1=5))
        word = deed("load", a=7, b=7, n=83)
        self.assert_state(self.after(word), 101, self.registers(r7=word))

    def test_store(self):
        for b, n, place in [(1, 0, 11), (1, 1, 12), (2, 65535, 11), (1, 65525, 0), (1, 65524, TOP)]:
            machine = self.after(deed("store", a=6, b=b, n=n), memory={11: 5, 12: 6, 0: 8, TOP: 9})
            self.assert_state(machine, 101, self.at_first)
            self.assertEqual([machine.word_at(each) for each in (11, 12, 0, TOP)],
                             [16 if each == place else word for each, word in ((11, 5), (12, 6), (0, 8), (TOP, 9))])
        machine = self.after(deed("store", a=3, b=3), memory={13: TOP})
        self.assertEqual(machine.word_at(13), 13)

    def test_store_on_a_word_that_is_done_later(self):
        end, tell = deed("end"), deed("tell", a=2)
        machine = self.assert_steps({20: deed("store", a=1, b=0, n=1), 21: end}, 20, [20, tell, 5, 0, 0, 0, 0, 0], 2)
        self.assert_state(machine, 22, [20, tell, 5, 0, 0, 0, 0, 0], [5])
        own = self.assert_steps({20: deed("store", a=1, b=0)}, 20, [20, tell, 5, 0, 0, 0, 0, 0])
        self.assertEqual(own.word_at(20), tell)

    def test_of_two_words(self):
        does = {"sum": lambda b, c: b + c, "less": lambda b, c: b - c, "both": lambda b, c: b & c,
                "odd": lambda b, c: b ^ c, "turn": lambda b, c: b >> c % 32 | b << 32 - c % 32}
        for title, b, c in itertools.product(does, EDGES, EDGES):
            machine = self.after(deed(title, a=6, b=1, c=4), self.registers(r1=b, r4=c))
            self.assert_state(machine, 101, self.registers(r1=b, r4=c, r6=does[title](b, c) % WORDS))

    def test_sums_and_differences_that_wrap(self):
        for title, b, c, result in [("sum", TOP, 1, 0), ("sum", TOP, TOP, TOP - 1), ("sum", 2 ** 31, 2 ** 31, 0),
                                    ("less", 0, 1, TOP), ("less", 0, TOP, 1), ("less", 1, 2, TOP), ("less", 5, 5, 0)]:
            machine = self.after(deed(title, a=0, b=1, c=2), self.registers(r1=b, r2=c))
            self.assert_state(machine, 101, self.registers(r0=result, r1=b, r2=c))

    def test_turn(self):
        for by, result in [(0, 0x80000003), (1, 0xC0000001), (31, 7), (32, 0x80000003), (33, 0xC0000001), (TOP, 7)]:
            machine = self.after(deed("turn", a=0, b=1, c=2), self.registers(r1=0x80000003, r2=by))
            self.assert_state(machine, 101, self.registers(r0=result, r1=0x80000003, r2=by))

    def test_same_and_under(self):
        for split in (0, 1, -1, -2, 63, 64, 127, 128, -128, -129, 2047, -2048):
            for one, two in itertools.product(EDGES, EDGES):
                registers = self.registers(r3=one, r5=two)
                machine = self.after(deed("same", a=3, b=5, split=split), registers, 5000)
                self.assert_state(machine, 5001 + split * (one == two), registers)
                machine = self.after(deed("under", a=3, b=5, split=split), registers, 5000)
                self.assert_state(machine, 5001 + split * (one < two), registers)

    def test_same_and_under_of_one_register(self):
        for each in range(8):
            self.assert_state(self.after(deed("same", a=each, b=each, split=9)), 110, self.at_first)
            self.assert_state(self.after(deed("under", a=each, b=each, split=9)), 101, self.at_first)

    def test_call(self):
        for near in (0, 1, -1, -2, 65535, 131071, 131072, 262143, -262144, -262143):
            machine = self.after(deed("call", a=5, near=near), place=300000)
            self.assert_state(machine, 300001 + near, self.registers(r5=300001))

    def test_go(self):
        for each in range(8):
            self.assert_state(self.after(deed("go", a=each)), 10 + each, self.at_first)
        for place in EDGES:
            self.assert_state(self.after(deed("go", a=2), self.registers(r2=place)), place, self.registers(r2=place))

    def test_there_and_back(self):
        words = {50: deed("call", a=7, near=9), 51: deed("tell", a=7), 52: deed("end"), 60: deed("go", a=7)}
        machine = self.assert_steps(words, 50, self.at_first, 9)
        self.assert_state(machine, 52, self.registers(r7=51), [51], True)


class PlacesThatWrapTest(MachineTest):
    def test_the_next_one_behind_the_last(self):
        for title in TITLES[1:]:
            if title not in ("load", "store", "go"):
                registers = [5, 6, 7, 8, 9, 10, 11, 12]
                machine = self.after(deed(title, a=1, b=2, c=3), registers, TOP)
                self.assertEqual(machine.state()[0], 0)
        machine = self.after(deed("load", a=1, b=2), [5, 6, 7, 8, 9, 10, 11, 12], TOP, {7: 3})
        self.assertEqual(machine.state()[0], 0)
        self.assert_steps({TOP: deed("put", a=0, n=3), 0: deed("tell", a=0), 1: deed("end")}, TOP, [0] * 8, 4)

    def test_a_start_somewhat_beyond(self):
        for start, place in [(WORDS, 0), (WORDS + 3, 3), (-1, TOP)]:
            machine = Machine({place: deed("put", a=0, n=5)}, start, [0] * 8)
            self.assert_state(machine, place, [0] * 8)
            self.assertIs(machine.go_on(), True)

    def test_call_at_the_last_place(self):
        machine = self.after(deed("call", a=4, near=0), [1] * 8, TOP)
        self.assert_state(machine, 0, [1, 1, 1, 1, 0, 1, 1, 1])
        machine = self.after(deed("call", a=4, near=-1), [1] * 8, TOP)
        self.assert_state(machine, TOP, [1, 1, 1, 1, 0, 1, 1, 1])

    def test_ways_that_wrap(self):
        for place, near, there in [(0, -2, TOP), (0, -1, 0), (TOP, 5, 5), (TOP - 1, 262143, 262142),
                                   (3, -262144, WORDS - 262140), (262142, -262144, TOP)]:
            self.assertEqual(self.after(deed("call", near=near), place=place).state()[0], there)
        for place, split, there in [(0, -2, TOP), (0, -1, 0), (TOP, 5, 5), (TOP - 1, 2047, 2046),
                                    (3, -2048, WORDS - 2044)]:
            self.assertEqual(self.after(deed("same", split=split), place=place).state()[0], there)
            self.assertEqual(self.after(deed("under", b=1, split=split), place=place).state()[0], there)


class EachWordTest(MachineTest):
    def test_each_deed_with_each_register(self):
        registers = [3, 40, 500, 6000, 40, 1, TOP, 2 ** 31]
        memory = {place: place * 7 % WORDS for number in registers for place in (number, (number + 2) % WORDS)}
        for title, a, b, c in itertools.product(TITLES, range(8), range(8), range(8)):
            word = TITLES.index(title) << 28 | a << 25 | b << 22 | c << 19 | 2
            self.assert_steps({**memory, 100: word}, 100, registers)

    def test_bits_of_no_account(self):
        registers = [30, 31, 32, 33, 34, 35, 36, 37]
        memory = {place: place * 7 + 1 for place in range(0, 80)}
        for title in TITLES:
            plain = deed(title, **{part: 5 + place for place, part in enumerate(USED[title])})
            unused = bits_unused(title)
            first = self.after(plain, registers, 100, memory)
            drawn = [sum(1 << bit for bit in unused)] + [1 << bit for bit in unused]
            drawn += [sum(1 << bit for bit in unused if number >> bit % 7 & 1) for number in range(128)]
            for bits in drawn:
                machine = self.after(plain | bits, registers, 100, memory)
                self.assertEqual(machine.state(), first.state())
                for place in memory:
                    self.assertEqual(machine.word_at(place), first.word_at(place))

    def test_each_bit(self):
        registers = [30, 331, 3332, 33333, 333334, 3333335, 33333336, 333333337]
        for title in TITLES:
            for plain in (deed(title), deed(title, **{part: 5 + place for place, part in enumerate(USED[title])})):
                looked = [number + 7 + (1 << bit) for number in registers for bit in range(15)]
                memory = dict.fromkeys(registers + looked, 44)
                for bit in range(32):
                    self.assert_steps({**memory, 100: plain ^ 1 << bit}, 100, registers)

    def test_words_drawn_at_will(self):
        """Programs out of a plain row of numbers, run until they are lost or have ended."""
        drawn = 12345
        steps = 0
        for program in range(400):
            numbers = []
            for each in range(48):
                drawn = (drawn * 6364136223846793005 + 1442695040888963407) % 2 ** 64
                numbers.append(drawn >> 32)
            # Small ways and numbers, so that most deeds stay among the words.
            words = {place: numbers[place] & 0xFF8000F | (numbers[place] >> 7) % 15 + 1 << 28 for place in range(40)}
            registers = [number % 37 for number in numbers[40:]]
            machine = self.assert_steps(words, program % 20, registers, 60)
            steps += len(machine.state()[2])
        self.assertGreater(steps, 300)


class LostTest(MachineTest):
    def test_the_place_reached(self):
        self.assert_lost(Machine({}, 0, [0] * 8), 0)
        self.assert_lost(Machine({5: 0}, 6, [0] * 8), 6)
        self.assert_lost(Machine({5: 0}, TOP, [0] * 8), TOP)
        machine = Machine({5: deed("put", a=1, n=9)}, 5, [0] * 8)
        self.assertIs(machine.go_on(), True)
        self.assert_lost(machine, 6)
        self.assert_state(machine, 6, [0, 9, 0, 0, 0, 0, 0, 0])

    def test_the_place_reached_by_each_way(self):
        for word, place in [(deed("go", a=1), 77), (deed("call", a=2, near=40), 46), (deed("same", split=-9), TOP - 2),
                            (deed("under", a=0, b=1, split=9), 15), (deed("call", a=2, near=-7), TOP)]:
            machine = Machine({5: word}, 5, [0, 77, 0, 0, 0, 0, 0, 0])
            self.assertIs(machine.go_on(), True)
            self.assert_lost(machine, place)

    def test_behind_the_last_place(self):
        machine = Machine({TOP: deed("put")}, TOP, [0] * 8)
        self.assertIs(machine.go_on(), True)
        self.assert_lost(machine, 0)

    def test_load_and_store(self):
        for title, b, n, place in itertools.product(("load", "store"), (9, 0, TOP), (0, 1, 65535, 32768, 32767), (8,)):
            lost = (b + (n if n < 32768 else n - 65536)) % WORDS
            if lost != place:
                machine = Machine({place: deed(title, a=0, b=1, n=n)}, place, [3, b, 0, 0, 0, 0, 0, 0])
                self.assert_lost(machine, lost)
                self.assert_state(machine, place, [3, b, 0, 0, 0, 0, 0, 0])
                self.assertIsNone(machine.word_at(lost))

    def test_into_the_register_that_is_looked_at(self):
        machine = Machine({8: deed("load", a=1, b=1, n=2)}, 8, [9] * 8)
        self.assert_lost(machine, 11)
        self.assert_state(machine, 8, [9] * 8)

    def test_nothing_is_changed_behind_other_steps(self):
        words = {0: deed("put", a=0, n=7), 1: deed("tell", a=0), 2: deed("store", a=0, b=1), 3: deed("store", a=0, b=2)}
        machine = Machine({**words, 20: 1}, 0, [0, 20, 21, 0, 0, 0, 0, 0])
        for step in range(3):
            self.assertIs(machine.go_on(), True)
        self.assert_lost(machine, 21)
        self.assert_state(machine, 3, [7, 20, 21, 0, 0, 0, 0, 0], [7])
        self.assertEqual([machine.word_at(place) for place in (0, 3, 20, 21)], [words[0], words[3], 7, None])


class WordAtTest(MachineTest):
    def test_of_places_with_and_without_a_word(self):
        machine = Machine({0: 5, 7: 0, TOP: TOP}, 0, [0] * 8)
        self.assertEqual([machine.word_at(place) for place in (0, 7, TOP)], [5, 0, TOP])
        for place in (1, 6, 8, 2 ** 31, TOP - 1):
            self.assertIsNone(machine.word_at(place))
        self.assertIsNone(Machine({}, 0, [0] * 8).word_at(0))

    def test_asking_changes_nothing(self):
        machine = Machine({3: deed("put")}, 4, [0] * 8)
        for place in (3, 4, 5):
            machine.word_at(place)
        self.assert_lost(machine, 4)
        self.assertIsNone(machine.word_at(4))

    def test_behind_a_store(self):
        for word in (0, 1, TOP):
            machine = self.after(deed("store", a=0, b=1, n=3), [word, 9, 0, 0, 0, 0, 0, 0], memory={12: 77, 13: 78})
            self.assertEqual([machine.word_at(12), machine.word_at(13)], [word, 78])
            self.assertIs(type(machine.word_at(12)), int)


class EndedTest(MachineTest):
    def test_true_once_and_false_from_there_on(self):
        for bits in (0, 1, 0xFFFFFFF, 0x5A5A5A5):
            machine = Machine({8: deed("end") | bits, 9: deed("tell")}, 8, [1, 2, 3, 4, 5, 6, 7, 8])
            self.assert_state(machine, 8, [1, 2, 3, 4, 5, 6, 7, 8])
            self.assertIs(machine.go_on(), True)
            for time in range(4):
                self.assert_state(machine, 8, [1, 2, 3, 4, 5, 6, 7, 8], [], True)
                self.assertIs(machine.go_on(), False)
            self.assertEqual([machine.word_at(8), machine.word_at(9)], [deed("end") | bits, deed("tell")])

    def test_all_stays(self):
        words = {0: deed("tell", a=1), 1: deed("store", a=1, b=0, n=9), 2: deed("end")}
        machine = Machine({**words, 9: 5}, 0, [0, 6, 0, 0, 0, 0, 0, 0])
        self.assertEqual([machine.go_on() for step in range(6)], [True, True, True, False, False, False])
        self.assert_state(machine, 2, [0, 6, 0, 0, 0, 0, 0, 0], [6], True)
        self.assertEqual([machine.word_at(place) for place in (0, 1, 2, 9)], list(words.values()) + [6])


class ProgramsTest(MachineTest):
    def test_a_sum(self):
        words = [deed("put", a=0, n=10), deed("put", a=1, n=0), deed("put", a=2, n=0), deed("same", a=0, b=2, split=3),
                 deed("sum", a=1, b=1, c=0), deed("add", a=0, b=0, n=65535), deed("same", a=0, b=0, split=-4),
                 deed("tell", a=1), deed("end")]
        machine = self.assert_steps(dict(enumerate(words, 7)), 7, [9] * 8, 100)
        self.assert_state(machine, 15, [0, 55, 0, 9, 9, 9, 9, 9], [55], True)

    def test_a_loaded_whole(self):
        code = ("code", 1,
                [deed("high", a=1), deed("load", a=0, b=1), deed("tell", a=0), deed("call", a=7), deed("end")],
                [(0, "high", "x", 1, False), (1, "low", "x", 1, False), (3, "near", "y", 0, False)])
        other = ("code", 4, [0, deed("add", a=0, b=0, n=1), deed("tell", a=0), deed("go", a=7)], [])
        given = [("p", [code, other, ("data", 8, [5, 6], [])],
                  [("main", "tell", 0, 0), ("y", "own", 1, 1), ("x", "own", 2, 0)])]
        whole = joined(given, [], "main")
        self.assertEqual(whole[:3], (8, 18, 0))
        for base in (8, 32752, 32760, 65536, 2 ** 31, 4294967272):
            memory = loaded(whole, base)
            machine = self.assert_steps(memory, start_of(whole, base), [0] * 8, 20)
            self.assertEqual(machine.state()[2:], ([6, 7], True))
            self.assertEqual(machine.state()[0], base + 4)
            self.assertEqual(machine.state()[1][7], base + 4)

    def test_many_steps_over_many_words(self):
        words = {place: deed("add", a=1, b=1, n=1) for place in range(200000)}
        machine = Machine(words, 100, [0] * 8)
        for step in range(50000):
            machine.go_on()
        self.assert_state(machine, 50100, [0, 50000, 0, 0, 0, 0, 0, 0])


class OwnCopiesTest(MachineTest):
    def program(self):
        words = [deed("store", a=0, b=1), deed("put", a=0, n=5), deed("tell", a=0), deed("load", a=3, b=1), deed("end")]
        return {**dict(enumerate(words)), 90: 4}, [7, 90, 0, 0, 0, 0, 0, 0]

    def run_through(self, machine):
        states = [machine.state()]
        while machine.go_on():
            states.append(machine.state())
        return states + [machine.word_at(90)]

    def test_nothing_handed_in_is_changed(self):
        memory, registers = self.program()
        before = copy.deepcopy((memory, registers))
        machine = Machine(memory, 0, registers)
        self.run_through(machine)
        self.assertEqual(machine.word_at(90), 7)
        self.assertEqual((memory, registers), before)

    def test_nothing_handed_in_is_changed_by_a_refusal(self):
        memory, registers = {0: deed("load", a=1, b=2)}, [0, 0, 50, 0, 0, 0, 0, 0]
        before = copy.deepcopy((memory, registers))
        self.assert_lost(Machine(memory, 0, registers), 50)
        self.assert_lost(Machine(memory, 1, registers), 1)
        self.assertEqual((memory, registers), before)

    def test_changing_what_was_handed_in_changes_no_answer(self):
        expected = self.run_through(Machine(self.program()[0], 0, self.program()[1]))
        memory, registers = self.program()
        machine = Machine(memory, 0, registers)
        memory[1] = 0
        memory.pop(90)
        registers[0] = 8
        registers.clear()
        self.assertEqual(self.run_through(machine), expected)
        self.assertEqual((len(memory), registers), (5, []))

    def test_two_machines_of_the_same_dict(self):
        memory, registers = self.program()
        first, second = Machine(memory, 0, registers), Machine(memory, 0, registers)
        expected = self.run_through(first)
        self.assertEqual(second.word_at(90), 4)
        self.assert_state(second, 0, self.program()[1])
        self.assertEqual(self.run_through(second), expected)
        self.assertEqual(self.run_through(Machine(memory, 0, registers)), expected)

    def test_what_state_tells_is_the_askers_own(self):
        machine, other = Machine(*self.asked()), Machine(*self.asked())
        for step in range(6):
            told = machine.state()
            before = copy.deepcopy(told)
            again = machine.state()
            told[1][0] = 99
            told[1].append(5)
            told[2].append(6)
            self.assertEqual(machine.state(), before)
            self.assertEqual(again, before)
            self.assertEqual(machine.state(), other.state())
            machine.go_on()
            other.go_on()
            self.assertEqual(again, before)
        self.assertEqual(machine.state(), (4, [5, 90, 0, 7, 0, 0, 0, 0], [5], True))

    def asked(self):
        memory, registers = self.program()
        return memory, 0, registers


if __name__ == "__main__":
    unittest.main()
