"""Points 27 to 29, and point 4 as far as it speaks of what is taken, kept and joined."""
import copy
import itertools
import unittest

from joinload.errors import JoinError, SameName, TooFar, Twice, Unmet
from joinload.joining import joined, map_of
from joinload.names import names_of
from joinload.rules import rule_of
from joinload.shelves import taken
from joinload.ways import reached

RULES = ("whole", "high", "low", "near", "split")


def code(words, fills=(), step=1):
    return ("code", step, list(words), list(fills))


def data(words, fills=(), step=1):
    return ("data", step, list(words), list(fills))


def fill(at, rule, name, add=0, soft=False):
    return (at, rule, name, add, soft)


def filled(word, rule, here, there):
    """The word filled, told anew by the words of point 9."""
    way = there - here - 1
    if rule == "whole":
        return there % 2 ** 32
    if rule == "high":
        return word // 65536 * 65536 + (there + 32768) // 65536 % 65536
    if rule == "low":
        return word // 65536 * 65536 + there % 65536
    if rule == "near":
        return word // 2 ** 19 * 2 ** 19 + way % 2 ** 19
    return word - word % 128 + way % 128 + ((way // 128 % 32) - (word // 2 ** 14 % 32)) * 2 ** 14


class Expected:
    """A join of taken pieces told anew by the words of points 18, 19 and 23 to 29, plainly and slowly."""

    def __init__(self, pieces, entry):
        self.pieces = {piece[0]: piece for piece in pieces}
        self.own = {(piece[0], each): place for piece in pieces for each, sort, *place in piece[2] if sort == "own"}
        self.names = {}
        for sort in ("weak", "tell"):
            for name, stretches, names in sorted(pieces, reverse=True):
                self.names.update({each: (name, number, offset) for each, by, number, offset in names if by == sort})
        root = self.names[entry]
        self.keys = self.kept(root[:2])
        self.map, self.size, self.step = {}, 0, 1
        for key in self.keys:
            kind, step, words, fills = self.stretch(key)
            while self.size % step:
                self.size += 1
            self.map[key] = self.size
            self.size += len(words)
            self.step = max(step, self.step)
        self.entry = self.map[root[:2]] + root[2]

    def stretch(self, key):
        return self.pieces[key[0]][1][key[1]]

    def aim(self, key, each):
        at, rule, name, add, soft = each
        if (key[0], name) in self.own:
            number, offset = self.own[key[0], name]
            return (key[0], number, offset + add)
        if name in self.names:
            return self.names[name][:2] + (self.names[name][2] + add,)
        return add % 2 ** 32

    def kept(self, root):
        keys = {root}
        while True:
            aims = [self.aim(key, each) for key in keys for each in self.stretch(key)[3]]
            more = keys | {aim[:2] for aim in aims if type(aim) is tuple}
            if more == keys:
                return sorted(keys, key=lambda key: (["code", "data"].index(self.stretch(key)[0]), key))
            keys = more

    def whole(self):
        """The whole, or what TooFar tells."""
        parts, leans = [], []
        for key in self.keys:
            kind, step, words, fills = self.stretch(key)
            words = list(words)
            for each in fills:
                at, rule, name, add, soft = each
                here, aim = self.map[key] + at, self.aim(key, each)
                if type(aim) is int:
                    words[at] = filled(words[at], rule, here, aim)
                    continue
                there = self.map[aim[:2]] + aim[2]
                if rule in ("whole", "high", "low"):
                    leans.append((here, rule, there))
                    continue
                half = 2 ** 18 if rule == "near" else 2 ** 11
                if not -half <= there - here - 1 < half:
                    return (name, key[0], key[1], at)
                words[at] = filled(words[at], rule, here, there)
            if words:
                parts.append((self.map[key], words))
        return (self.step, self.size, self.entry, parts, leans)


class JoiningTest(unittest.TestCase):
    def assert_whole(self, told):
        """The kinds of all that a whole holds."""
        self.assertEqual((type(told), len(told)), (tuple, 5))
        self.assertEqual([type(part) for part in told], [int, int, int, list, list])
        for part in told[3]:
            self.assertEqual([type(part), type(part[0]), type(part[1])], [tuple, int, list])
            self.assertEqual(len(part), 2)
            self.assertTrue(part[1])
            self.assertTrue(all(type(word) is int and 0 <= word < 2 ** 32 for word in part[1]))
        for lean in told[4]:
            self.assertEqual([type(lean)] + [type(part) for part in lean], [tuple, int, str, int])
        places = [lean[0] for lean in told[4]]
        self.assertEqual(places, sorted(set(places)))

    def assert_joined(self, given, shelves, entry, whole=None):
        """A join that is not refused; held against Expected, and against the whole if it is told."""
        pieces = taken(given, shelves, entry)
        wanted = Expected(pieces, entry)
        places = map_of(given, shelves, entry)
        self.assertIs(type(places), dict)
        self.assertEqual(places, wanted.map)
        for key, place in places.items():
            self.assertEqual([type(key), type(key[0]), type(key[1]), type(place)], [tuple, str, int, int])
        told = joined(given, shelves, entry)
        self.assert_whole(told)
        self.assertEqual(told, wanted.whole())
        if whole is not None:
            self.assertEqual(told, whole)
        return told

    def assert_refused(self, refusal, parts, given, shelves, entry, asked=(joined, map_of)):
        for ask in asked:
            with self.assertRaises(JoinError) as caught:
                ask(given, shelves, entry)
            self.assertIs(type(caught.exception), refusal)
            for part, value in parts.items():
                self.assertEqual(getattr(caught.exception, part), value)
                self.assertIs(type(getattr(caught.exception, part)), type(value))

    def assert_too_far(self, name, piece, stretch, at, given, shelves, entry):
        parts = {"name": name, "piece": piece, "stretch": stretch, "at": at}
        self.assert_refused(TooFar, parts, given, shelves, entry, [joined])
        wanted = Expected(taken(given, shelves, entry), entry)
        self.assertEqual(wanted.whole(), (name, piece, stretch, at))
        self.assertEqual(map_of(given, shelves, entry), wanted.map)


class KeptTest(JoiningTest):
    def test_one_stretch(self):
        piece = ("p", [code([1, 2, 3])], [("main", "tell", 0, 0)])
        self.assert_joined([piece], [], "main", (1, 3, 0, [(0, [1, 2, 3])], []))
        self.assertEqual(map_of([piece], [], "main"), {("p", 0): 0})

    def test_what_is_not_reached_changes_nothing(self):
        left_out = [code([9] * 70, step=64), data([9] * 7, [fill(0, "whole", "main")], step=65536)]
        for number in range(3):
            stretches = [code([1, 2, 3]), data([4, 5])]
            stretches[number:number] = left_out
            places = {0: [2, 3], 1: [0, 3], 2: [0, 1]}[number]
            stretches[places[0]][3].append(fill(1, "whole", "d"))
            piece = ("p", stretches, [("main", "tell", places[0], 1), ("d", "own", places[1], 1)])
            self.assert_joined([piece], [], "main", (1, 5, 1, [(0, [1, 2, 3]), (3, [4, 5])], [(1, "whole", 4)]))
            self.assertEqual(map_of([piece], [], "main"), {("p", places[0]): 0, ("p", places[1]): 3})

    def test_given_pieces_that_are_not_reached_are_left_out(self):
        first = ("a", [code([7] * 50, step=4096)], [("other", "tell", 0, 0)])
        second = ("b", [code([1])], [("main", "tell", 0, 0)])
        for given in ([first, second], [second, first]):
            self.assert_joined(given, [], "main", (1, 1, 0, [(0, [1])], []))

    def test_pieces_that_are_taken_but_not_reached_are_left_out(self):
        given = [("p", [code([1]), code([2], [fill(0, "whole", "x")], step=8)], [("main", "tell", 0, 0)])]
        shelves = [[("q", [data([3], step=16)], [("x", "tell", 0, 0)])]]
        self.assert_joined(given, shelves, "main", (1, 1, 0, [(0, [1])], []))

    def test_the_entry_on_a_shelf(self):
        given = [("p", [code([1])], [("x", "tell", 0, 0)])]
        shelves = [[("q", [code([2], [fill(0, "whole", "x")]), code([5])], [("main", "weak", 0, 1)])]]
        self.assert_joined(given, shelves, "main", (1, 2, 2, [(0, [1]), (1, [2])], [(1, "whole", 0)]))
        self.assert_joined(given, shelves, "x", (1, 1, 0, [(0, [1])], []))

    def test_the_entry_is_what_the_name_stands_for(self):
        pieces = [("a", [code([1, 1])], [("main", "weak", 0, 1)]), ("b", [code([2, 2, 2])], [("main", "weak", 0, 2)]),
                  ("c", [code([3])], [("main", "own", 0, 1)])]
        for given in itertools.permutations(pieces):
            self.assert_joined(list(given), [], "main", (1, 2, 1, [(0, [1, 1])], []))
        pieces.append(("d", [code([4, 4, 4, 4])], [("main", "tell", 0, 3)]))
        for given in itertools.permutations(pieces):
            self.assert_joined(list(given), [], "main", (1, 4, 3, [(0, [4, 4, 4, 4])], []))

    def test_each_that_is_reached_is_kept_and_each_that_is_kept_is_reached(self):
        for nets in itertools.product(["", "a", "b", "c", "a c", "b c"], repeat=3):
            stretches = [(("code", "data")[at % 2], 2 ** at, [5] * 2 * at,
                          [fill(k, "whole", name, 9, True) for k, name in enumerate(net.split()) if k < 2 * at])
                         for at, net in enumerate(nets, start=1)]
            given = [("p", stretches[:1], [("a", "tell", 0, 0)]),
                     ("q", stretches[1:], [("b", "weak", 0, 1), ("c", "tell", 1, 2)])]
            for entry in ("a", "b", "c"):
                self.assert_joined(given, [], entry)
                names = names_of(given)
                keys = [key for key, by, at in reached(given, names, names[entry][:2])]
                self.assertEqual(sorted(map_of(given, [], entry)), sorted(keys))


class EntryTest(JoiningTest):
    def test_at_each_offset(self):
        for offset in range(4):
            given = [("p", [code([1, 2, 3], [fill(0, "whole", "a")])], [("main", "tell", 0, offset)]),
                     ("a", [code([7] * 5, step=4)], [("a", "tell", 0, 0)])]
            self.assertEqual(self.assert_joined(given, [], "main")[:3], (4, 8, 5 + offset))

    def test_in_data(self):
        given = [("p", [data([1, 2, 3], [fill(2, "low", "c", 1)]), code([4, 5])],
                  [("main", "tell", 0, 1), ("c", "own", 1, 0)])]
        self.assert_joined(given, [], "main", (1, 5, 3, [(0, [4, 5]), (2, [1, 2, 3])], [(4, "low", 1)]))

    def test_in_a_stretch_without_words(self):
        given = [("p", [code([], step=16)], [("main", "tell", 0, 0)])]
        self.assert_joined(given, [], "main", (16, 0, 0, [], []))
        self.assertEqual(map_of(given, [], "main"), {("p", 0): 0})

    def test_where_the_wordless_stretch_lies(self):
        """Nobody reaches a second stretch from one without words, so it lies alone at 0."""
        given = [("p", [code([1, 2]), data([], step=8)], [("a", "tell", 0, 0), ("main", "tell", 1, 0)])]
        self.assert_joined(given, [], "main", (8, 0, 0, [], []))


class PartsTest(JoiningTest):
    def test_a_kept_stretch_without_words_has_no_part(self):
        given = [("p", [code([1, 2, 3], [fill(0, "whole", "e"), fill(1, "low", "f"), fill(2, "high", "g", 1)]),
                        code([], step=8), data([], step=2), data([4], step=16)],
                  [("main", "tell", 0, 0), ("e", "own", 1, 0), ("f", "own", 2, 0), ("g", "own", 3, 0)])]
        self.assert_joined(given, [], "main", (16, 17, 0, [(0, [1, 2, 3]), (16, [4])],
                                               [(0, "whole", 8), (1, "low", 8), (2, "high", 17)]))
        self.assertEqual(map_of(given, [], "main"), {("p", 0): 0, ("p", 1): 8, ("p", 2): 8, ("p", 3): 16})

    def test_a_wordless_stretch_at_the_end_counts_for_the_size(self):
        given = [("p", [code([1], [fill(0, "whole", "e")]), data([], step=32)],
                  [("main", "tell", 0, 0), ("e", "own", 1, 0)])]
        self.assert_joined(given, [], "main", (32, 32, 0, [(0, [1])], [(0, "whole", 32)]))

    def test_places_of_the_map_are_those_of_the_parts(self):
        given = [("b", [data([1, 2, 3], step=4), code([4], [fill(0, "near", "x", 1)])],
                  [("d", "tell", 0, 0), ("main", "tell", 1, 0)])]
        shelves = [[("a", [code([5, 6], [fill(1, "whole", "d", 2)], step=2)], [("x", "tell", 0, 1)])]]
        places = map_of(given, shelves, "main")
        self.assertEqual(places, {("a", 0): 0, ("b", 1): 2, ("b", 0): 4})
        whole = self.assert_joined(given, shelves, "main")
        self.assertEqual([place for place, words in whole[3]], sorted(places.values()))

    def test_words_without_a_fill_stay(self):
        words = [0, 1, 4294967295, 2147483648, 65536]
        given = [("p", [code(words, [fill(2, "low", "main")])], [("main", "tell", 0, 0)])]
        self.assert_joined(given, [], "main", (1, 5, 0, [(0, words)], [(2, "low", 0)]))


class FilledTest(JoiningTest):
    def test_rules_that_lean_leave_the_word(self):
        for rule in ("whole", "high", "low"):
            for soft in (False, True):
                for word in (0, 4294967295, 305419896):
                    given = [("p", [code([7, word], [fill(1, rule, "x", 3, soft)]), data([1, 2], step=4)],
                              [("main", "tell", 0, 0), ("x", "own", 1, 1)])]
                    self.assert_joined(given, [], "main", (4, 6, 0, [(0, [7, word]), (4, [1, 2])], [(1, rule, 8)]))

    def test_targets_below_nought_and_beyond_the_size(self):
        for add in (-2147483648, -10, -1, 0, 1, 2, 3, 100, 2147483647):
            for rule in ("whole", "high", "low"):
                given = [("p", [code([7, 8], [fill(0, rule, "main", add)])], [("main", "tell", 0, 1)])]
                self.assert_joined(given, [], "main", (1, 2, 1, [(0, [7, 8])], [(0, rule, 1 + add)]))

    def test_soft_ones_that_aim_at_a_number(self):
        for add in (-2147483648, -65536, -32769, -1, 0, 1, 32767, 32768, 65535, 65536, 98304, 2147483647):
            for word in (0, 4294967295, 305419896):
                number = add % 2 ** 32
                for rule, wanted in [("whole", number), ("low", word // 65536 * 65536 + number % 65536),
                                     ("high", word // 65536 * 65536 + (number + 32768) // 65536 % 65536)]:
                    given = [("p", [code([7, word], [fill(1, rule, "x", add, True)])], [("main", "tell", 0, 0)])]
                    self.assert_joined(given, [], "main", (1, 2, 0, [(0, [7, wanted])], []))

    def test_a_number_does_not_hang_on_the_place(self):
        for step in (1, 8, 65536):
            given = [("p", [code([1], [fill(0, "whole", "x")]), data([5, 5, 5], [
                fill(0, "whole", "q", -3, True), fill(1, "low", "q", -3, True), fill(2, "high", "q", -3, True)], step)],
                      [("main", "tell", 0, 0), ("x", "own", 1, 0)])]
            whole = self.assert_joined(given, [], "main")
            self.assertEqual(whole[3][1][1], [4294967293, 65533, 0])
            self.assertEqual(whole[4], [(0, "whole", step)])

    def test_a_soft_fill_finds_what_is_taken_and_takes_nothing(self):
        wanting = ("p", [code([1, 2], [fill(0, "whole", "x", 5, True)])], [("main", "tell", 0, 0)])
        telling = ("q", [data([3])], [("x", "weak", 0, 0), ("y", "tell", 0, 0)])
        self.assert_joined([wanting], [[telling]], "main", (1, 2, 0, [(0, [5, 2])], []))
        self.assert_joined([wanting, telling], [], "main", (1, 3, 0, [(0, [1, 2]), (2, [3])], [(0, "whole", 7)]))

    def test_near_and_split_within_a_stretch(self):
        for rule in ("near", "split"):
            for at, there in itertools.product(range(4), repeat=2):
                words = [0] * 4
                given = [("p", [code(words, [fill(at, rule, "x")])], [("main", "tell", 0, 0), ("x", "own", 0, there)])]
                whole = self.assert_joined(given, [], "main")
                self.assertEqual(rule_of(rule).read_back(whole[3][0][1][at], at), there)
                self.assertEqual(whole[4], [])

    def test_near_and_split_across_stretches_and_pieces_both_ways(self):
        for rule in ("near", "split"):
            for add in (-5, -1, 0, 1, 5):
                given = [("b", [code([0, 4294967295], [fill(1, rule, "x", add)], step=8),
                                data([1, 2, 3], [fill(0, rule, "main", add), fill(2, rule, "y", add)], step=16)],
                          [("main", "tell", 0, 1), ("y", "weak", 1, 2)]),
                         ("a", [code([6] * 9, [fill(3, rule, "main", add), fill(8, rule, "y", add)])],
                          [("x", "tell", 0, 4)])]
                whole = self.assert_joined(given, [], "main")
                self.assertEqual([place for place, words in whole[3]], [0, 16, 32])
                back = {place + at: rule_of(rule).read_back(word, place + at)
                        for place, words in whole[3] for at, word in enumerate(words)}
                aims = {3: 17, 8: 34, 17: 4, 32: 17, 34: 34}
                self.assertEqual({place: back[place] for place in aims}, {k: v + add for k, v in aims.items()})
                self.assertEqual(whole[4], [])

    def test_own_names_ahead_of_told_ones(self):
        for rule in RULES:
            given = [("p", [code([1, 1], [fill(1, rule, "x")])], [("main", "tell", 0, 0), ("x", "own", 0, 1)]),
                     ("a", [code([2])], [("x", "tell", 0, 0)])]
            whole = self.assert_joined(given, [], "main")
            self.assertEqual([place for place, words in whole[3]], [0])

    def test_leans_by_rising_place(self):
        given = [("b", [data([1] * 3, [fill(0, "low", "main"), fill(2, "whole", "d")]),
                        code([2] * 4, [fill(1, "whole", "d", 1), fill(2, "near", "x"), fill(3, "high", "d")])],
                  [("d", "tell", 0, 0), ("main", "tell", 1, 0)]),
                 ("a", [data([3] * 2, [fill(1, "high", "x", -9)]), code([4] * 2, [fill(0, "low", "e", 1)])],
                  [("e", "own", 0, 1), ("x", "tell", 1, 1)])]
        for order in itertools.permutations(given):
            whole = self.assert_joined(list(order), [], "main")
            self.assertEqual(whole[4], [(0, "low", 8), (3, "whole", 9), (5, "high", 8), (7, "high", -8),
                                        (8, "low", 2), (10, "whole", 8)])

    def test_each_filled_word_read_back_tells_its_aim(self):
        """High and low of the same aim together, filled as loading does it, at several bases."""
        for add in (-70000, -32769, -1, 0, 1, 32767, 32768, 40000, 70000):
            fills = [fill(0, "high", "x", add), fill(1, "low", "x", add), fill(2, "whole", "x", add),
                     fill(3, "near", "x", add)]
            given = [("p", [code([4294967295] * 4, fills), data([1], step=65536)],
                      [("main", "tell", 0, 0), ("x", "own", 1, 0)])]
            whole = self.assert_joined(given, [], "main")
            words = whole[3][0][1]
            self.assertEqual(rule_of("near").read_back(words[3], 3), 65536 + add)
            for base in (65536, 655360):
                back = {rule: rule_of(rule).read_back(rule_of(rule).filled(words[place], 0, base + target), 0)
                        for place, rule, target in whole[4]}
                self.assertEqual((back["high"] + back["low"]) % 2 ** 32, base + 65536 + add)
                self.assertEqual(back["whole"], base + 65536 + add)


class TooFarTest(JoiningTest):
    def of_way(self, rule, way):
        """A join in which a word's way is this one, led there by an add."""
        return [("p", [code([0, 0, 0], [fill(1, rule, "x", way + 2)])], [("main", "tell", 0, 0), ("x", "own", 0, 0)])]

    def test_the_edges_by_an_add(self):
        for rule, half in (("near", 262144), ("split", 2048)):
            for way in (-half, half - 1):
                whole = self.assert_joined(self.of_way(rule, way), [], "main")
                self.assertEqual(rule_of(rule).read_back(whole[3][0][1][1], 1), way + 2)
            for way in (-half - 1, half, -2 ** 31 + 5, 2 ** 31 - 5):
                self.assert_too_far("x", "p", 0, 1, self.of_way(rule, way), [], "main")

    def test_the_edges_by_places(self):
        """A chain of stretches, the last one as far from the first as half of the ways that the rule has."""
        for rule, step, last in (("near", 65536, 4), ("split", 1024, 2)):
            half = step * last
            for at, offset in itertools.product((0, 1), (0, 1, 2)):
                self.assert_way(rule, step, last, (0, at), (last, offset), half + offset - at - 1)
                self.assert_way(rule, step, last, (last, at), (0, offset), offset - half - at - 1)

    def assert_way(self, rule, step, last, source, target, way):
        """A word, told by stretch and number, is filled for a place, told by stretch and offset."""
        stretches = [code([0, 0, 0], [fill(2, "whole", f"n{number + 1}")], step) for number in range(last)]
        stretches.append(code([0, 0, 0], [], step))
        stretches[source[0]][3].insert(0, fill(source[1], rule, "x"))
        names = [("main", "tell", 0, 0)] + [(f"n{number}", "own", number, 0) for number in range(1, last + 1)]
        given = [("p", stretches, names + [("x", "own") + target])]
        half = step * last
        if -half <= way < half:
            whole = self.assert_joined(given, [], "main")
            place, words = whole[3][source[0]]
            here = place + source[1]
            self.assertEqual(rule_of(rule).read_back(words[source[1]], here) - here - 1, way)
        else:
            self.assert_too_far("x", "p", source[0], source[1], given, [], "main")

    def test_rules_that_lean_are_never_too_far(self):
        for rule in ("whole", "high", "low"):
            for add in (-2 ** 31, 2 ** 31 - 1):
                given = [("p", [code([0], [fill(0, rule, "main", add)])], [("main", "tell", 0, 0)])]
                self.assertEqual(self.assert_joined(given, [], "main")[4], [(0, rule, add)])

    def test_the_first_word_by_the_order_of_laying_and_then_of_words(self):
        far = 10 ** 6
        stretches = {
            ("a", 0): data([0, 0, 0], [fill(0, "near", "main", far)]),
            ("a", 1): code([0, 0, 0],
                           [fill(0, "near", "main", 0), fill(1, "split", "w1", far), fill(2, "near", "x", far)]),
            ("b", 0): data([0, 0, 0], [fill(1, "near", "main", far)]),
            ("b", 1): code([0, 0, 0], [fill(0, "near", "w2", -far), fill(2, "split", "main", 0)]),
        }
        reach = [fill(at, "whole", name) for at, name in enumerate(["a0", "a1", "b0", "b1"])]
        for mend, wanted in [((), ("w1", "a", 1, 1)), ((("a", 1),), ("w2", "b", 1, 0)),
                             ((("a", 1), ("b", 1)), ("main", "a", 0, 0)),
                             ((("a", 0), ("a", 1), ("b", 1)), ("main", "b", 0, 1))]:
            now = {key: (kind, step, words, [] if key in mend else fills)
                   for key, (kind, step, words, fills) in stretches.items()}
            pieces = [("a", [now["a", 0], now["a", 1]],
                       [("a0", "tell", 0, 0), ("a1", "tell", 1, 0), ("w1", "own", 1, 1)]),
                      ("b", [now["b", 0], now["b", 1]],
                       [("b0", "tell", 0, 0), ("b1", "tell", 1, 0), ("w2", "own", 1, 1)]),
                      ("c", [code([0] * 4, reach)], [("main", "tell", 0, 0), ("x", "weak", 0, 0)])]
            for order in itertools.permutations(pieces):
                self.assert_too_far(*wanted, list(order), [], "main")
                self.assert_too_far(*wanted, [], [list(order[:1]), list(order[1:])], "main")

    def test_by_the_order_of_numbers_and_of_names_as_texts(self):
        stretches = [code([0], [fill(0, "whole", "n9")])] + [code([0]) for number in range(1, 12)]
        names = [("main", "tell", 0, 0)] + [(f"n{number}", "tell", number, 0) for number in range(1, 12)]
        stretches[9] = code([0, 0], [fill(0, "split", "main", 5000), fill(1, "whole", "n10")])
        stretches[10] = code([0], [fill(0, "split", "main", 5000)])
        self.assert_too_far("main", "p", 9, 0, [("p", stretches, names)], [], "main")
        first = ("p9", [code([0, 0], [fill(0, "near", "p10", 10 ** 6), fill(1, "whole", "p10")])],
                 [("main", "tell", 0, 0)])
        second = ("p10", [code([0], [fill(0, "near", "main", 10 ** 6)])], [("p10", "tell", 0, 0)])
        for order in itertools.permutations([first, second]):
            self.assert_too_far("main", "p10", 0, 0, list(order), [], "main")

    def test_words_of_stretches_that_are_not_kept_are_never_too_far(self):
        given = [("a", [code([0], [fill(0, "near", "main", 10 ** 6)]), code([1])], [("main", "tell", 1, 0)]),
                 ("b", [data([0], [fill(0, "split", "main", -10 ** 6)])], [("y", "tell", 0, 0)])]
        self.assert_joined(given, [], "main", (1, 1, 0, [(0, [1])], []))
        self.assert_too_far("main", "b", 0, 0, given, [], "y")


class RefusalsTest(JoiningTest):
    same = [("s", [], []), ("s", [], [])]
    unmet = ("u", [code([0], [fill(0, "low", "nobody")])], [])
    twice = [("t1", [code([0])], [("again", "tell", 0, 0)]), ("t2", [code([0])], [("again", "tell", 0, 0)])]
    main = ("m", [code([0], [fill(0, "near", "main", 10 ** 6)])], [("main", "tell", 0, 0)])

    def test_each_ahead_of_the_next(self):
        same = {"name": "s"}
        unmet = {"name": "nobody", "piece": "u"}
        twice = {"name": "again", "one": "t1", "other": "t2"}
        far = {"name": "main", "piece": "m", "stretch": 0, "at": 0}
        given = self.same + [self.unmet] + self.twice + [self.main]
        for order in (given, given[::-1]):
            self.assert_refused(SameName, same, order, [], "main")
        for order in (given[2:], given[:1:-1]):
            self.assert_refused(Unmet, unmet, order, [], "main")
            self.assert_refused(Unmet, {"name": "entry", "piece": ""}, order, [], "entry")
        for order in (given[3:], given[:2:-1]):
            self.assert_refused(Twice, twice, order, [], "main")
        self.assert_refused(TooFar, far, given[5:], [], "main", [joined])
        self.assertEqual(map_of(given[5:], [], "main"), {("m", 0): 0})

    def test_each_pair(self):
        self.assert_refused(SameName, {"name": "s"}, self.same + [self.unmet, self.main], [], "main")
        self.assert_refused(SameName, {"name": "s"}, self.same + self.twice + [self.main], [], "main")
        self.assert_refused(SameName, {"name": "s"}, [self.main], [self.same], "main")
        self.assert_refused(SameName, {"name": "s"}, [self.main], [self.same[:1], self.same[1:]], "nowhere")
        self.assert_refused(Unmet, {"name": "nobody", "piece": "u"}, [self.unmet, self.main], [], "main")
        self.assert_refused(Twice, {"name": "again"}, self.twice + [self.main], [], "main")

    def test_twice_among_the_taken_pieces_alone(self):
        main = ("m", [code([0])], [("main", "tell", 0, 0)])
        self.assert_joined([main], [self.twice], "main", (1, 1, 0, [(0, [0])], []))
        self.assert_joined([main, self.twice[0]], [self.twice[1:]], "main")
        third = ("t3", [code([0])], [("again", "tell", 0, 0), ("x", "tell", 0, 0)])
        wanting = ("w", [code([0], [fill(0, "whole", "x")])], [])
        self.assert_joined([main, wanting], [[third], self.twice], "main")
        parts = {"name": "again", "one": "t1", "other": "t3"}
        self.assert_refused(Twice, parts, [main, wanting, self.twice[0]], [[third], self.twice[1:]], "main")
        self.assert_refused(Twice, parts, [main, wanting, self.twice[0]], [self.twice[1:], [third]], "main")

    def test_twice_of_names_that_nobody_wants_and_that_lie_in_stretches_not_kept(self):
        main = ("m", [code([0]), code([1])], [("main", "tell", 0, 0), ("again", "tell", 1, 0)])
        self.assert_refused(Twice, {"name": "again", "one": "m", "other": "t1"}, [main, self.twice[0]], [], "main")

    def test_unmet_of_a_piece_whose_stretch_is_not_kept(self):
        main = ("m", [code([0]), code([1], [fill(0, "low", "nobody")])], [("main", "tell", 0, 0)])
        self.assert_refused(Unmet, {"name": "nobody", "piece": "m"}, [main], [], "main")

    def test_an_entry_that_is_none(self):
        given = [("p", [code([0])], [("main", "tell", 0, 0), ("mine", "own", 0, 0)])]
        shelves = [[("q", [code([0])], [("its", "own", 0, 0), ("other", "weak", 0, 0)])]]
        for entry in ("", "mine", "its", "nobody", "Main", "main ", "main_", "p", "q", "0", "a\nb", "x" * 17, "*"):
            self.assert_refused(Unmet, {"name": entry, "piece": ""}, given, shelves, entry)
            self.assert_refused(Unmet, {"name": entry, "piece": ""}, [], shelves, entry)
            self.assert_refused(Unmet, {"name": entry, "piece": ""}, [], [], entry)

    def test_the_least_of_the_entry_and_what_is_wanted(self):
        given = [("p", [code([0], [fill(0, "low", "k")])], [("k", "weak", 0, 0), ("mine", "own", 0, 0)]), self.unmet]
        self.assert_refused(Unmet, {"name": "mine", "piece": ""}, given, [], "mine")
        self.assert_refused(Unmet, {"name": "nobody", "piece": "u"}, given, [], "nobody_")
        self.assert_refused(Unmet, {"name": "nobody", "piece": ""}, given, [], "nobody")


class OrdersTest(JoiningTest):
    """Point 4: orders change nothing, as long as no name is told by two pieces of the shelves."""

    def assert_all_orders(self, given, on_shelves, entry, ask):
        answers = []
        for first in itertools.permutations(given):
            for second in itertools.permutations(on_shelves):
                for cut in range(len(second) + 1):
                    answers.append(ask(list(first), [list(second[:cut]), [], list(second[cut:])], entry))
        self.assertTrue(all(answer == answers[0] for answer in answers))
        return answers[0]

    def refusal(self, given, shelves, entry):
        with self.assertRaises(JoinError) as caught:
            joined(given, shelves, entry)
        return type(caught.exception), vars(caught.exception)

    def pieces(self):
        given = [("g1", [code([1, 2], [fill(0, "near", "s1"), fill(1, "whole", "w")]), data([3], step=8)],
                  [("main", "tell", 0, 0), ("w", "weak", 1, 0)]),
                 ("g2", [data([4, 4], [fill(1, "high", "s2", 7)], step=4)], [("w", "weak", 0, 1), ("v", "tell", 0, 0)])]
        shelf = [("s1", [code([5, 6], [fill(0, "split", "s2"), fill(1, "low", "v", -2)], step=2)],
                  [("s1", "tell", 0, 1)]),
                 ("s2", [code([7], [fill(0, "low", "q", 3, True)]), data([8])], [("s2", "weak", 0, 0)]),
                 ("s3", [code([9], [fill(0, "low", "gone")])], [("q", "tell", 0, 0)])]
        return given, shelf

    def test_of_the_whole(self):
        given, shelf = self.pieces()
        whole = self.assert_all_orders(given, shelf, "main", joined)
        self.assertEqual(whole, self.assert_joined(given, [shelf], "main"))
        self.assertEqual(whole[:3], (8, 14, 0))
        places = self.assert_all_orders(given, shelf, "main", map_of)
        self.assertEqual(places, {("g1", 0): 0, ("s1", 0): 2, ("s2", 0): 4, ("g1", 1): 8, ("g2", 0): 12})

    def test_of_each_refusal(self):
        given, shelf = self.pieces()
        self.assertEqual(self.assert_all_orders(given, shelf, "q", self.refusal),
                         (Unmet, {"name": "gone", "piece": "s3"}))
        again = given + [("g0", [code([1])], [("s1", "tell", 0, 0), ("v", "tell", 0, 0)])]
        self.assertEqual(self.assert_all_orders(again, shelf, "main", self.refusal),
                         (Twice, {"name": "v", "one": "g0", "other": "g2"}))
        same = shelf[:2] + [("g2", [], []), ("g1", [], [])]
        self.assertEqual(self.assert_all_orders(given, same, "main", self.refusal), (SameName, {"name": "g1"}))
        far = [given[0], ("g2", [data([4], [fill(0, "near", "main", 10 ** 6)])], [("v", "tell", 0, 0)])]
        self.assertEqual(self.assert_all_orders(far, shelf, "main", self.refusal),
                         (TooFar, {"name": "main", "piece": "g2", "stretch": 0, "at": 0}))


def made(number):
    """A join told by a number, out of the digits of its powers; each name is told by one piece of the shelves."""
    state = [number]

    def next_below(many):
        state[0] = (state[0] * 1103515245 + 12345) % 2 ** 31
        return state[0] // 65536 % many

    pieces = []
    for name in ("b", "a1", "a", "c"):
        stretches, names = [], []
        for each in range(1 + next_below(3)):
            words = [next_below(32768) * 131071 for word in range(next_below(6))]
            fills = []
            for at in range(len(words)):
                if next_below(3):
                    rule = RULES[next_below(5)]
                    wanted = ("a0", "b0", "a10", "c0", "own", "no")[next_below(6)]
                    soft = wanted == "no" or rule in RULES[:3] and next_below(2) == 1
                    rule = RULES[next_below(3)] if soft else rule
                    fills.append(fill(at, rule, wanted, next_below(40) - 20, soft))
            stretches.append((("code", "data")[next_below(2)], 2 ** next_below(5), words, fills))
            if each == 0:
                names.append((f"{name}0", ("tell", "weak")[next_below(2)], 0, next_below(len(words) + 1)))
        last = len(stretches) - 1
        names.append(("own", ("own", "own", "weak")[next_below(3)], last, len(stretches[last][2])))
        pieces.append((name, stretches, names))
    return pieces


class LeastSetTest(JoiningTest):
    def first_for(self, name, given, on_shelves):
        """The piece that comes first for a name: a given one, which is in every set, or the first on the shelves."""
        for piece in given + on_shelves:
            if any(told[0] == name and told[1] != "own" for told in piece[2]):
                return piece[0]
        raise AssertionError(name)

    def holds(self, chosen, given, on_shelves, entry):
        """Whether the set has the piece that comes first for the entry and for each name that one of it wants."""
        wanted = [entry]
        for name, stretches, names in given + on_shelves:
            if name in chosen:
                own = [told[0] for told in names if told[1] == "own"]
                fills = [each for stretch in stretches for each in stretch[3]]
                wanted += [each[2] for each in fills if not each[4] and each[2] not in own]
        return all(self.first_for(each, given, on_shelves) in chosen for each in wanted)

    def test_the_pieces_taken_are_the_least_set(self):
        found = set()
        for number in range(150):
            # Here "own" is each piece's own name, so that it is met wherever it is wanted.
            pieces = [(name, stretches, [("own", "own", 0, 0)] + names[:-1]) for name, stretches, names in made(number)]
            given, on_shelves = pieces[:number % 2], pieces[number % 2:]
            sets = []
            for many in range(len(on_shelves) + 1):
                for some in itertools.combinations(on_shelves, many):
                    chosen = {piece[0] for piece in given + list(some)}
                    if self.holds(chosen, given, on_shelves, "c0"):
                        sets.append(chosen)
            least = set.intersection(*sets)
            self.assertIn(least, sets)
            self.assertEqual([piece[0] for piece in taken(given, [on_shelves], "c0")], sorted(least))
            self.assertTrue({name for name, key in map_of(given, [on_shelves], "c0")} <= least)
            found.add(tuple(sorted(least)))
        self.assertGreater(len(found), 5)


class ManyJoinsTest(JoiningTest):
    def test_against_the_words_of_the_document(self):
        kept = 0
        for number in range(400):
            pieces = made(number)
            for entry in ("a0", "c0"):
                given = pieces[:number % 4 + 1]
                whole = self.assert_joined_or_unmet(given, [pieces[number % 4 + 1:]], entry)
                kept += len(whole[3]) if whole else 0
        self.assertGreater(kept, 1000)

    def assert_joined_or_unmet(self, given, shelves, entry):
        try:
            taken(given, shelves, entry)
        except Unmet as refusal:
            self.assert_refused(Unmet, {"name": refusal.name, "piece": refusal.piece}, given, shelves, entry)
            return None
        return self.assert_joined(given, shelves, entry)

    def test_the_bounds(self):
        """A hundred pieces of two stretches, a thousand words with fills each, a thousand names told by each piece."""
        pieces = []
        for each in range(100):
            rules = [("whole", "high", "low", "near")[at % 4] for at in range(1000)]
            fills = [fill(at, rules[at], f"n{(each + at) % 100}_{at}", at - 500) for at in range(1000)]
            names = [(f"n{each}_{at}", ("tell", "weak")[at % 2], at // 500, at) for at in range(1000)]
            words = [at * 4294967 for at in range(1000)]
            stretches = [code(words, fills, 2 ** (each % 11)), data([each] * 1000, fills)]
            pieces.append((f"p{each}", stretches, names))
        shelves = [[piece] for piece in pieces[1:]]
        whole = self.assert_joined(pieces[:1], shelves, "n99_499")
        self.assertEqual((len(whole[3]), len(whole[4])), (200, 150000))


class OwnCopiesTest(JoiningTest):
    def asked(self):
        return [[("g", [code([1, 2, 3], [fill(0, "near", "x"), fill(1, "low", "q", 4, True), fill(2, "high", "o")]),
                        data([9])], [("main", "tell", 0, 0), ("o", "own", 1, 0)])],
                [[("s", [code([5], [fill(0, "whole", "main")])], [("x", "weak", 0, 0)])], []], "main"]

    def test_nothing_handed_in_is_changed(self):
        for ask in (joined, map_of):
            asked = self.asked()
            ask(*asked)
            self.assertEqual(asked, self.asked())

    def test_nothing_handed_in_is_changed_by_a_refusal(self):
        for more, refusal in [(("s", [], []), SameName),
                              (("z", [code([0], [fill(0, "low", "gone")])], []), Unmet),
                              (("z", [code([0])], [("main", "tell", 0, 0)]), Twice),
                              (("z", [code([0], [fill(0, "near", "z", 10 ** 6)])], [("z", "tell", 0, 0)]), TooFar)]:
            asked = self.asked()
            asked[0].append(more)
            asked[0][0][1][0][3][1] = fill(1, "low", "z", 4, True)
            before = copy.deepcopy(asked)
            with self.assertRaises(refusal):
                joined(*asked)
            self.assertEqual(asked, before)

    def test_changing_what_was_told_changes_no_later_answer(self):
        asked = self.asked()
        whole, places = joined(*asked), map_of(*asked)
        before = copy.deepcopy((whole, places))
        for place, words in whole[3]:
            words[0] = 77
            words.append(5)
        whole[3].pop()
        whole[4].clear()
        places.clear()
        self.assertEqual((joined(*asked), map_of(*asked)), before)
        self.assertEqual(asked, self.asked())

    def test_changing_what_was_handed_in_changes_nothing_told(self):
        asked = self.asked()
        whole, places = joined(*asked), map_of(*asked)
        for name, stretches, names in asked[0] + asked[1][0]:
            for kind, step, words, fills in stretches:
                words.clear()
                fills.clear()
            stretches.clear()
            names.clear()
        asked[0].clear()
        asked[1].clear()
        self.assertEqual((whole, places), (joined(*self.asked()), map_of(*self.asked())))


if __name__ == "__main__":
    unittest.main()
