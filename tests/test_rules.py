import unittest

from joinload.errors import JoinError, NoRule
from joinload.rules import Rule, rule_of

TITLES = ["whole", "high", "low", "near", "split"]
MANY_WORDS = 2 ** 32

WORDS = [0, 1, 0x7FFFFFFF, 0x80000000, 0xFFFFFFFF, 0x12345678, 0xDEADBEEF, 0xAAAAAAAA, 0x55555555, 0x0007C07F]
SIXTY = [10 ** 60 - 1, 10 ** 59, 314159265358979323846264338327950288419716939937510582097494, 2 ** 199 - 1, 2 ** 199]
SMALL = [0, 1, 2, 100, 32767, 32768, 65535, 65536, 2 ** 31 - 1, 2 ** 31, 2 ** 32 - 1, 2 ** 32, 2 ** 32 + 1]
PLACES = SMALL + SIXTY + [-place for place in SMALL[1:] + SIXTY]

# The bits that a rule fills, lowest first.
BITS = {
    "whole": list(range(32)),
    "high": list(range(16)),
    "low": list(range(16)),
    "near": list(range(19)),
    "split": list(range(7)) + list(range(14, 19)),
}


def bit(number, k):
    return number // 2 ** k % 2


def expected(title, word, here, there):
    """The filled word, put together bit by bit."""
    number = {
        "whole": there,
        "high": (there + 32768) // 65536,
        "low": there,
        "near": there - here - 1,
        "split": there - here - 1,
    }[title]
    bits = [bit(word, k) for k in range(32)]
    for k, place in enumerate(BITS[title]):
        bits[place] = bit(number, k)
    return sum(each * 2 ** k for k, each in enumerate(bits))


def places_beside_odd_halves():
    for times in [1, 3, 5, 7, 32767, 65535, 65537, 131071, 131073, 2 ** 100 + 1]:
        for multiple in (times * 32768, -times * 32768):
            for beside in (-2, -1, 0, 1, 2):
                yield multiple + beside


class RulesTest(unittest.TestCase):
    def assert_filled(self, title, word, here, there):
        told = rule_of(title).filled(word, here, there)
        self.assertIs(type(told), int)
        self.assertEqual(told, expected(title, word, here, there), (title, word, here, there))

    def read(self, title, word, here):
        told = rule_of(title).read_back(word, here)
        self.assertIs(type(told), int)
        return told


class RuleOfTest(RulesTest):
    def test_each_title(self):
        for title in TITLES:
            rule = rule_of(title)
            self.assertIsInstance(rule, Rule)
            self.assertEqual(rule.title, title)

    def test_other_texts_are_refused(self):
        others = ["", " ", "\n", "wholes", "whol", "w", "far", "code", "tell", "nearsplit", "near split", "x" * 100000]
        for title in TITLES:
            others += [" " + title, title + " ", "\n" + title, title + "\n", title.upper(), title.capitalize(),
                       title[:-1], title[1:], title + title, title + "_", "-" + title]
        for text in others:
            with self.subTest(text=text[:40]):
                with self.assertRaises(NoRule) as caught:
                    rule_of(text)
                self.assertIs(type(caught.exception), NoRule)
                self.assertIsInstance(caught.exception, JoinError)

    def test_changing_a_rule_changes_no_later_one(self):
        for title in TITLES:
            rule_of(title).title = "changed"
            self.assertEqual(rule_of(title).title, title)


class LeansTest(RulesTest):
    def test_of_each(self):
        for title, leans in [("whole", True), ("high", True), ("low", True), ("near", False), ("split", False)]:
            self.assertIs(rule_of(title).leans(), leans)


class WholeTest(RulesTest):
    def test_filled(self):
        rule = rule_of("whole")
        self.assertEqual(rule.filled(0x12345678, 7, 5), 5)
        self.assertEqual(rule.filled(0xFFFFFFFF, 7, 0), 0)
        self.assertEqual(rule.filled(0, 7, -1), 4294967295)
        self.assertEqual(rule.filled(0, 7, 4294967296 + 3), 3)
        for word in WORDS:
            for there in PLACES:
                self.assert_filled("whole", word, 0, there)

    def test_fits_everywhere(self):
        for there in PLACES:
            self.assertIs(rule_of("whole").fits(0, there), True)

    def test_read_back_is_the_word(self):
        for word in WORDS:
            for here in PLACES:
                self.assertEqual(self.read("whole", word, here), word)

    def test_filled_and_read_back_is_the_place_wrapped(self):
        for there in PLACES:
            filled = rule_of("whole").filled(0xDEADBEEF, 3, there)
            self.assertEqual(self.read("whole", filled, 3), there % MANY_WORDS)


class HighAndLowTest(RulesTest):
    def test_high_filled_at_known_places(self):
        rule = rule_of("high")
        for there, upper in [(0, 0), (32767, 0), (32768, 1), (65535, 1), (65536, 1), (98303, 1), (98304, 2),
                             (-1, 0), (-32768, 0), (-32769, 0xFFFF), (-65536, 0xFFFF), (-98304, 0xFFFF),
                             (-98305, 0xFFFE), (0xFFFF7FFF, 0xFFFF), (0xFFFF8000, 0), (0xFFFFFFFF, 0)]:
            self.assertEqual(rule.filled(0xABCD0000, 9, there), 0xABCD0000 + upper, there)
            self.assertEqual(rule.filled(0xABCDFFFF, 9, there), 0xABCD0000 + upper, there)

    def test_high_beside_odd_multiples_of_half(self):
        for there in places_beside_odd_halves():
            for word in WORDS:
                self.assert_filled("high", word, 0, there)

    def test_high_steps_at_odd_multiples_alone(self):
        rule = rule_of("high")
        for times in range(-9, 10):
            below = rule.filled(0, 0, times * 32768 - 1)
            at = rule.filled(0, 0, times * 32768)
            self.assertEqual((at - below) % 65536, times % 2, times)

    def test_low_filled_at_known_places(self):
        rule = rule_of("low")
        for there, lower in [(0, 0), (1, 1), (65535, 65535), (65536, 0), (65537, 1), (-1, 65535), (-65536, 0),
                             (-65537, 65535), (32768, 32768), (-32768, 32768)]:
            self.assertEqual(rule.filled(0xABCD0000, 9, there), 0xABCD0000 + lower, there)
            self.assertEqual(rule.filled(0xABCDFFFF, 9, there), 0xABCD0000 + lower, there)

    def test_filled_for_places_of_all_sizes(self):
        for title in ("high", "low"):
            for word in WORDS:
                for there in PLACES + list(places_beside_odd_halves()):
                    self.assert_filled(title, word, there, there)

    def test_here_is_of_no_account(self):
        for title in ("whole", "high", "low"):
            told = [rule_of(title).filled(0x12345678, here, 0x9ABCDEF0) for here in PLACES]
            self.assertEqual(told, told[:1] * len(PLACES))
            told = [rule_of(title).read_back(0x12345678, here) for here in PLACES]
            self.assertEqual(told, told[:1] * len(PLACES))

    def test_fit_everywhere(self):
        for title in ("high", "low"):
            for there in PLACES:
                self.assertIs(rule_of(title).fits(5, there), True)

    def test_read_back(self):
        for word in WORDS:
            lower = word % 65536
            self.assertEqual(self.read("high", word, 3), 65536 * lower)
            self.assertEqual(self.read("low", word, 3), lower if lower < 32768 else lower - 65536)
        self.assertEqual(self.read("low", 0xABCD7FFF, 0), 32767)
        self.assertEqual(self.read("low", 0xABCD8000, 0), -32768)
        self.assertEqual(self.read("low", 0xABCDFFFF, 0), -1)
        self.assertEqual(self.read("high", 0xABCDFFFF, 0), 0xFFFF0000)

    def test_read_back_and_added_they_are_the_place_wrapped(self):
        for there in PLACES + list(places_beside_odd_halves()):
            for word in WORDS:
                upper = self.read("high", rule_of("high").filled(word, 1, there), 1)
                lower = self.read("low", rule_of("low").filled(word, 2, there), 2)
                self.assertEqual((upper + lower) % MANY_WORDS, there % MANY_WORDS, there)


class WayTest(RulesTest):
    def assert_way(self, title, word, here, way):
        there = here + 1 + way
        self.assertIs(rule_of(title).fits(here, there), True)
        self.assert_filled(title, word, here, there)
        filled = rule_of(title).filled(word, here, there)
        self.assertEqual(self.read(title, filled, here), there)

    def assert_fits(self, title, least, most):
        for here in PLACES:
            for way, fits in [(least - 1, False), (least, True), (most, True), (most + 1, False), (0, True),
                              (-1, True), (10 ** 58, False), (-10 ** 58, False)]:
                self.assertIs(rule_of(title).fits(here, here + 1 + way), fits, (title, here, way))

    def test_near_fits(self):
        self.assert_fits("near", -262144, 262143)

    def test_split_fits(self):
        self.assert_fits("split", -2048, 2047)

    def test_near_at_known_ways(self):
        rule = rule_of("near")
        self.assertEqual(rule.filled(0xFFF80000, 100, 101), 0xFFF80000)
        self.assertEqual(rule.filled(0, 100, 102), 1)
        self.assertEqual(rule.filled(0, 100, 100), 0x7FFFF)
        self.assertEqual(rule.filled(0, 0, -262143), 0x40000)
        self.assertEqual(rule.filled(0, 0, 262144), 0x3FFFF)

    def test_split_at_known_ways(self):
        rule = rule_of("split")
        self.assertEqual(rule.filled(0xFFF83F80, 100, 101), 0xFFF83F80)
        self.assertEqual(rule.filled(0, 100, 101 + 127), 0x7F)
        self.assertEqual(rule.filled(0, 100, 101 + 128), 0x4000)
        self.assertEqual(rule.filled(0, 100, 100), 0x7C07F)
        self.assertEqual(rule.filled(0, 0, 1 - 2048), 0x40000)
        self.assertEqual(rule.filled(0, 0, 1 + 2047), 0x3C07F)

    def test_near_filled_and_read_back(self):
        ways = [-262144, -262143, -65537, -65536, -1, 0, 1, 65535, 65536, 262142, 262143]
        for way in ways + list(range(-262144, 262144, 128 * 97)):
            for here in PLACES:
                self.assert_way("near", 0xDEADBEEF, here, way)
            for word in WORDS:
                self.assert_way("near", word, 7, way)

    def test_each_split_filled_and_read_back(self):
        for way in range(-2048, 2048):
            for word in (0, 0xFFFFFFFF, 0xDEADBEEF):
                self.assert_way("split", word, 40, way)

    def test_split_at_multiples_of_128_and_edges(self):
        for way in list(range(-2048, 2048, 128)) + [-2047, -129, -127, -1, 1, 127, 129, 2046, 2047]:
            for here in PLACES:
                self.assert_way("split", 0x12345678, here, way)
            for word in WORDS:
                self.assert_way("split", word, -7, way)

    def test_read_back_of_any_word(self):
        for here in PLACES:
            self.assertEqual(self.read("near", 0xFFFFFFFF, here), here)
            self.assertEqual(self.read("near", 0xFFF80000, here), here + 1)
            self.assertEqual(self.read("near", 0x00040000, here), here + 1 - 262144)
            self.assertEqual(self.read("near", 0xFFFBFFFF, here), here + 1 + 262143)
            self.assertEqual(self.read("split", 0xFFFFFFFF, here), here)
            self.assertEqual(self.read("split", 0xFFF83F80, here), here + 1)
            self.assertEqual(self.read("split", 0x00040000, here), here + 1 - 2048)
            self.assertEqual(self.read("split", 0xFFFBFFFF, here), here + 1 + 2047)


class OtherBitsTest(RulesTest):
    def test_each_bit_that_a_rule_does_not_name_stays(self):
        for title in TITLES:
            rule = rule_of(title)
            for there in (101, 100, 101 + 2047, 101 - 2048, 101 + 85):
                for k in range(32):
                    for word in (2 ** k, 2 ** 32 - 1 - 2 ** k):
                        told = rule.filled(word, 100, there)
                        if k in BITS[title]:
                            self.assertEqual(told, rule.filled(word ^ 2 ** k, 100, there))
                        else:
                            self.assertEqual(bit(told, k), bit(word, k), (title, there, k))
                        self.assert_filled(title, word, 100, there)


if __name__ == "__main__":
    unittest.main()
