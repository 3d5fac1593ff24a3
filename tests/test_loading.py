"""Points 32 to 35: wholes loaded at a base, their start, and the bases at which they fit; and point 2 of these."""
import copy
import itertools
import unittest

from joinload.errors import JoinError, NoBase
from joinload.joining import joined
from joinload.loading import loaded, start_of
from joinload.wholes import read_whole, shown_whole

WORDS = 2 ** 32


def filled(word, rule, there):
    """Point 9's rules that lean, by figures: the word as eight of base sixteen, the lowest last."""
    figures = f"{word:08x}"
    if rule == "whole":
        figures = f"{there % WORDS:08x}"
    elif rule == "high":
        figures = figures[:4] + f"{(there + 32768) // 65536 % 65536:04x}"
    elif rule == "low":
        figures = figures[:4] + f"{there % 65536:04x}"
    return int(figures, 16)


def expected(whole, base):
    """Point 33, word by word."""
    leans = {place: (rule, target) for place, rule, target in whole[4]}
    memory = {}
    for place, words in whole[3]:
        for at, word in enumerate(words):
            rule, target = leans.get(place + at, ("none", 0))
            memory[base + place + at] = filled(word, rule, base + target)
    return memory


def whole_of(*rows):
    return read_whole("\n".join(rows))


SOME = whole_of(
    "whole 4 40 3",
    "part 0", "word 1", "word 2", "lean whole 0", "word 4026597376", "lean high 40000", "word 4294967295",
    "part 4", "part 4", "word 7", "lean low -5",
    "part 16", "word 3221291008", "lean low 9999999999", "word 0", "lean high -9999999999",
    "part 39", "word 9", "lean whole -9999999999",
    "part 40")


class LoadingTest(unittest.TestCase):
    def assert_loaded(self, whole, base, memory=None):
        told = loaded(whole, base)
        self.assertEqual(told, expected(whole, base))
        if memory is not None:
            self.assertEqual(told, memory)
        start = start_of(whole, base)
        self.assertEqual(start, base + whole[2])
        self.assertIs(type(start), int)
        for place, word in told.items():
            self.assertIs(type(place), int)
            self.assertIs(type(word), int)
            self.assertTrue(1 <= place < WORDS and 0 <= word < WORDS)
        return told

    def assert_no_base(self, whole, base):
        for ask in (loaded, start_of):
            with self.assertRaises(NoBase) as caught:
                ask(whole, base)
            self.assertEqual(caught.exception.base, base)
            self.assertIs(type(caught.exception.base), int)
            self.assertIsInstance(caught.exception, JoinError)


class BasesTest(LoadingTest):
    def test_0_and_below(self):
        for step in (1, 2, 4, 65536):
            whole = whole_of(f"whole {step} 1 0", "part 0", "word 5")
            for times in (0, -1, -2, -65536, -WORDS, -10 ** 50):
                self.assert_no_base(whole, times * step)
            self.assert_no_base(whole, -1)

    def test_1(self):
        self.assert_loaded(whole_of("whole 1 1 0", "part 0", "word 5"), 1, {1: 5})
        self.assert_loaded(whole_of("whole 1 0 0"), 1, {})
        for step in (2, 4, 8, 65536):
            self.assert_no_base(whole_of(f"whole {step} 1 0", "part 0", "word 5"), 1)

    def test_no_multiple_of_the_step(self):
        for power in range(1, 17):
            step = 2 ** power
            whole = whole_of(f"whole {step} 1 0", "part 0", "word 5")
            for times in (1, 2, 3, 1000):
                base = times * step
                self.assert_loaded(whole, base, {base: 5})
                for other in (base - 1, base + 1, base + step // 2, base - step // 2):
                    if other % step:
                        self.assert_no_base(whole, other)

    def test_each_base_of_the_first_ones(self):
        for step in (1, 2, 4, 8):
            whole = whole_of(f"whole {step} 3 1", "part 0", "word 5", "part 2", "word 6")
            for base in range(-20, 40):
                if base in range(step, 40, step):
                    self.assert_loaded(whole, base, {base: 5, base + 2: 6})
                else:
                    self.assert_no_base(whole, base)

    def test_the_greatest_base(self):
        for power, size in itertools.product(range(17), (0, 1, 2, 3, 100, 65535, 65536, 65537, 2 ** 31, WORDS - 65537)):
            step = 2 ** power
            whole = whole_of(f"whole {step} {size} {size}")
            greatest = (WORDS - 1 - size) // step * step
            if greatest:
                self.assert_loaded(whole, greatest, {})
            self.assert_no_base(whole, greatest + step)
            self.assert_no_base(whole, greatest + 2 * step)

    def test_base_and_size_at_the_last_place(self):
        for size in (0, 1, 2, 5, 4294967290, 4294967294):
            whole = whole_of(f"whole 1 {size} {size}", *(["part 0", "word 3"] if size else []))
            self.assert_loaded(whole, 4294967295 - size)
            self.assertEqual(start_of(whole, 4294967295 - size), 4294967295)
            self.assert_no_base(whole, 4294967296 - size)
            self.assert_no_base(whole, 4294967297 - size)
        last = whole_of("whole 1 3 2", "part 2", "word 8", "lean whole 2")
        self.assert_loaded(last, 4294967292, {4294967294: 4294967294})

    def test_the_greatest_size_fits_nowhere(self):
        for base in (-1, 0, 1, 2, 4294967295, 4294967296):
            self.assert_no_base(whole_of("whole 1 4294967295 0"), base)
        self.assert_loaded(whole_of("whole 1 4294967294 0"), 1, {})
        self.assert_no_base(whole_of("whole 2 4294967294 0"), 2)

    def test_size_0(self):
        for step in (1, 2, 65536):
            whole = whole_of(f"whole {step} 0 0", "part 0", "part 0")
            self.assert_loaded(whole, step, {})
            self.assert_loaded(whole, WORDS - step, {})
            self.assertEqual(start_of(whole, WORDS - step), WORDS - step)
            self.assert_no_base(whole, WORDS)
            self.assert_no_base(whole, 0)

    def test_bases_of_many_figures(self):
        for whole in (SOME, whole_of("whole 1 0 0")):
            for base in (WORDS, 2 * WORDS, WORDS + 4, 4 * 10 ** 58, 10 ** 60 - 4, 10 ** 60 - 1, -4 * 10 ** 58):
                self.assert_no_base(whole, base)

    def test_ahead_of_all_else(self):
        """The start is refused where its own place would be one, too."""
        whole = whole_of("whole 4 8 0", "part 0", "word 1")
        self.assert_no_base(whole, 4294967288)
        self.assert_loaded(whole, 4294967284, {4294967284: 1})


class WordsTest(LoadingTest):
    def test_some(self):
        for base in (4, 8, 32764, 32768, 65532, 65536, 2 ** 31, 4294967252):
            self.assert_loaded(SOME, base)
        told = self.assert_loaded(SOME, 32768)
        self.assertEqual(sorted(place - 32768 for place in told), [0, 1, 2, 3, 4, 16, 17, 39])
        self.assertEqual(told[32768], 1)
        self.assertEqual(told[32769], 32768)
        self.assertEqual(told[32770], 4026597376 // 65536 * 65536 + 1)
        self.assertEqual(told[32771], 4294967295)
        self.assertEqual(told[32772], 32763)

    def test_words_without_a_lean(self):
        for word in (0, 1, 65535, 65536, 2 ** 31, 4294967295):
            for base in (1, 77, 65535, 65536, 4294967294):
                self.assert_loaded(whole_of("whole 1 1 0", "part 0", f"word {word}"), base, {base: word})

    def test_whole(self):
        words, targets, bases = (0, 0xFFFFFFFF, 0x12345678), (-7, -1, 0, 1, 5), (1, 6, 7, 4294967000)
        for word, target, base in itertools.product(words, targets, bases):
            whole = whole_of("whole 1 1 0", "part 0", f"word {word}", f"lean whole {target}")
            self.assert_loaded(whole, base, {base: (base + target) % WORDS})
        whole = whole_of("whole 1 1 0", "part 0", "word 3", "lean whole -2")
        self.assert_loaded(whole, 1, {1: 4294967295})
        whole = whole_of("whole 1 1 0", "part 0", "word 3", "lean whole 4294967295")
        self.assert_loaded(whole, 1, {1: 0})

    def test_high(self):
        for word, high in [(0x30000000, 0x30000000), (0x3FFFFFFF, 0x3FFF0000), (0x1234ABCD, 0x12340000)]:
            whole = whole_of("whole 1 1 0", "part 0", f"word {word}", "lean high 0")
            for base, more in [(1, 0), (32767, 0), (32768, 1), (98303, 1), (98304, 2), (2 ** 31, 32768),
                               (4294934527, 65535), (4294934528, 0), (4294967294, 0)]:
                self.assert_loaded(whole, base, {base: high + more})
        whole = whole_of("whole 1 1 0", "part 0", "word 0", "lean high -32770")
        self.assert_loaded(whole, 1, {1: 65535})
        self.assert_loaded(whole, 2, {2: 0})

    def test_low(self):
        for word, high in [(0x40000000, 0x40000000), (0x4FFFFFFF, 0x4FFF0000), (0x1234ABCD, 0x12340000)]:
            whole = whole_of("whole 1 1 0", "part 0", f"word {word}", "lean low 0")
            for base in (1, 32767, 32768, 65535, 65536, 98304, 4294967294):
                self.assert_loaded(whole, base, {base: high + base % 65536})
        whole = whole_of("whole 1 1 0", "part 0", "word 0", "lean low -3")
        self.assert_loaded(whole, 1, {1: 65534})
        self.assert_loaded(whole, 3, {3: 0})

    def test_targets_at_their_edges(self):
        targets = (-9999999999, -WORDS - 1, -WORDS, -1, 0, 1, 39, 40, 41, 32767, 32768, WORDS - 1, WORDS, 9999999999)
        for rule, target, word in itertools.product(("whole", "high", "low"), targets, (0, 0x5A5A5A5A, 0xFFFFFFFF)):
            whole = whole_of("whole 1 2 0", "part 1", f"word {word}", f"lean {rule} {target}")
            for base in (1, 2, 32768, 65535, 2 ** 31 + 9, 4294967293):
                self.assert_loaded(whole, base)

    def test_high_and_low_of_one_target_together(self):
        targets, bases = (-9999999999, -1, 0, 32767, 9999999999), (1, 32767, 32768, 70000, 4294967000)
        for target, base in itertools.product(targets, bases):
            whole = whole_of("whole 1 2 0", "part 0", "word 0", f"lean high {target}", "word 0", f"lean low {target}")
            told = self.assert_loaded(whole, base)
            low = (told[base + 1] + 32768) % 65536 - 32768
            self.assertEqual((65536 * told[base] + low) % WORDS, (base + target) % WORDS)

    def test_gaps_and_parts_without_words(self):
        whole = whole_of("whole 1 9 4", "part 0", "part 1", "word 5", "part 2", "part 4", "word 6", "part 9")
        self.assert_loaded(whole, 10, {11: 5, 14: 6})
        self.assertEqual(start_of(whole, 10), 14)
        self.assert_loaded(whole_of("whole 1 9 4", "part 3"), 10, {})

    def test_many_words(self):
        """As many as two hundred stretches of a thousand words each, three of four with a lean."""
        parts = [(1024 * part, [(at * 40503 + part) * 65537 % WORDS for at in range(1000)]) for part in range(200)]
        leans = []
        for place, words in parts:
            for at in range(1000):
                if at % 4:
                    leans.append((place + at, ("", "whole", "high", "low")[at % 4], (at - 450) * 1001))
        whole = (1024, 204776, 204775, parts, leans)
        for base in (1024, 65536, 4294762496):
            self.assertEqual(len(self.assert_loaded(whole, base)), 200000)
        self.assert_no_base(whole, 4294763520)

    def test_a_long_text(self):
        rows = ["whole 1 9000 8999", "part 0"]
        for at in range(3100):
            rows += [f"word {4294967295 - at}", f"lean high {at + 1000}"]
        self.assertTrue(90000 < len("\n".join(rows)) <= 100000)
        self.assertEqual(len(self.assert_loaded(whole_of(*rows), 60000)), 3100)


class StartTest(LoadingTest):
    def test_the_entry_at_0_in_the_middle_and_at_size(self):
        for size, entry, base in itertools.product((0, 1, 2, 10), (0, 1, 5, 10), (1, 2, 65536, 4294967285)):
            if entry <= size:
                self.assertEqual(start_of(whole_of(f"whole 1 {size} {entry}"), base), base + entry)

    def test_no_word_is_asked_there(self):
        whole = whole_of("whole 1 5 3", "part 0", "word 1")
        self.assertEqual(start_of(whole, 8), 11)
        self.assertNotIn(11, loaded(whole, 8))


class TwoBasesTest(LoadingTest):
    def test_only_words_of_leans_differ(self):
        bases = (4, 8, 32764, 65536, 65540, 2 ** 31, 4294967252)
        leaning = {place for place, rule, target in SOME[4]}
        for one, other in itertools.combinations(bases, 2):
            first, second = loaded(SOME, one), loaded(SOME, other)
            self.assertEqual({place - one for place in first}, {place - other for place in second})
            differing = {place - one for place in first if first[place] != second[place - one + other]}
            self.assertTrue(differing <= leaning)
            self.assertTrue({1, 39} <= differing)

    def test_what_is_joined(self):
        code = ("code", 2, [0xE0000000, 0x30000000, 0x40000000, 0xC0000000, 5, 6],
                [(0, "near", "x", 0, False), (1, "high", "x", 3, False), (2, "low", "x", 3, False),
                 (3, "split", "x", -1, False), (4, "whole", "x", -9, False), (5, "low", "gone", 70000, True)])
        names = [("main", "tell", 0, 2), ("x", "tell", 1, 1)]
        whole = joined([("p", [code, ("data", 8, [1, 2], [])], names)], [], "main")
        self.assertEqual(whole[:3], (8, 10, 2))
        low = 70000 % 65536
        for base in (8, 65536, 4294967280):
            there = base + 12
            self.assert_loaded(whole, base, {
                base: 0xE0000008, base + 1: 0x30000000 + (there + 32768) // 65536 % 65536,
                base + 2: 0x40000000 + there % 65536, base + 3: 0xC0000004, base + 4: base, base + 5: low,
                base + 8: 1, base + 9: 2})
            self.assertEqual(start_of(whole, base), base + 2)
            again = read_whole(shown_whole(whole))
            self.assertEqual((loaded(again, base), start_of(again, base)), (loaded(whole, base), start_of(whole, base)))


class OwnCopiesTest(LoadingTest):
    def test_nothing_handed_in_is_changed(self):
        whole = copy.deepcopy(SOME)
        for base in (4, 65536, 3, 0):
            for ask in (loaded, start_of):
                try:
                    ask(whole, base)
                except NoBase:
                    self.assertIn(base, (0, 3))
                self.assertEqual(whole, SOME)

    def test_changing_what_was_told_changes_no_later_answer(self):
        whole = copy.deepcopy(SOME)
        told = loaded(whole, 4)
        before = dict(told)
        told[4] = 99
        told[5] = 98
        told.pop(6)
        told[1000] = 1
        self.assertEqual(loaded(whole, 4), before)
        self.assertEqual(whole, SOME)

    def test_changing_what_was_handed_in_changes_nothing_told(self):
        whole = copy.deepcopy(SOME)
        told = loaded(whole, 4)
        for place, words in whole[3]:
            words.clear()
        whole[3].clear()
        whole[4].clear()
        self.assertEqual(told, loaded(SOME, 4))
        self.assertEqual(loaded(whole, 4), {})


if __name__ == "__main__":
    unittest.main()
