"""Point 41's values, and point 44 as far as it speaks of two of them by themselves."""
import itertools
import unittest

from joinload.errors import NoSense
from joinload.values import (
    WithFill, at_first, at_value, copied_value, high_value, in_one_stretch, is_at, is_word, moved_on, of_two_values,
    only_at, only_word,
)

TOP = 4294967295
AT = ("at", "p", 1, 5)
HIGH = ("high", "p", 1, 5)


class ValuesTest(unittest.TestCase):
    def assert_no_sense(self, ask, *asked):
        with self.assertRaises(NoSense):
            ask(*asked)

    def test_kinds(self):
        for value, word, place in [(0, True, False), (TOP, True, False), (AT, False, True), (HIGH, False, False)]:
            self.assertIs(is_word(value), word)
            self.assertIs(is_at(value), place)
            if word:
                self.assertEqual(only_word(value), value)
            else:
                self.assert_no_sense(only_word, value)
            if place:
                self.assertEqual(only_at(value), value)
            else:
                self.assert_no_sense(only_at, value)

    def test_offsets_are_wrapped(self):
        for offset, wrapped in [(0, 0), (5, 5), (-1, TOP), (TOP, TOP), (TOP + 1, 0), (-TOP - 3, TOP - 1)]:
            self.assertEqual(at_value(("p", 1, offset)), ("at", "p", 1, wrapped))
        self.assertEqual(high_value(("at", "p", 1, TOP)), ("high", "p", 1, TOP))

    def test_copies(self):
        for value in (AT, HIGH):
            self.assertEqual(copied_value(value), value)
            self.assertIsNot(copied_value(value), value)
        self.assertEqual(copied_value(7), 7)

    def test_moved_on(self):
        for start, number, end in [(0, 0, 0), (5, 3, 8), (5, -5, 0), (5, -6, TOP), (TOP, 1, 0), (1, -TOP, 2)]:
            self.assertEqual(moved_on(start, number), end)
            self.assertEqual(moved_on(("at", "q", 2, start), number), ("at", "q", 2, end))
            self.assert_no_sense(moved_on, ("high", "q", 2, start), number)

    def test_in_one_stretch(self):
        for other, told in [(("at", "p", 1, 0), True), (("at", "p", 1, TOP), True), (("at", "p", 2, 5), False),
                            (("at", "q", 1, 5), False), (HIGH, False), (5, False), (0, False)]:
            self.assertIs(in_one_stretch(AT, other), told)
            self.assertIs(in_one_stretch(other, AT), told)
        self.assertIs(in_one_stretch(HIGH, HIGH), False)

    def test_at_first(self):
        for title, number in [("whole", 0x8000), ("low", 0x12348000), ("high", 0x12340001)]:
            self.assertEqual(at_first(0x12345678, title, 0x8000), number)
        self.assertEqual(at_first(7, "whole", ("p", 1, -1)), ("at", "p", 1, TOP))
        for title in ("high", "low", "near", "split"):
            told = at_first(7, title, ("p", 1, -1))
            self.assertIsInstance(told, WithFill)
            self.assertEqual((told.word, told.title, told.aimed), (7, title, ("at", "p", 1, TOP)))

    def test_of_two_values(self):
        values = (0, 7, TOP, AT, ("at", "p", 1, TOP), ("at", "p", 2, 5), ("at", "q", 1, 5), HIGH)
        for title, first, second in itertools.product(("sum", "less", "both", "odd", "turn"), values, values):
            kinds = ["word" if isinstance(value, int) else value[0] for value in (first, second)]
            if kinds == ["word", "word"]:
                continue
            if title == "sum" and sorted(kinds) == ["at", "word"]:
                place, number = (first, second) if kinds[0] == "at" else (second, first)
                expected = place[:3] + ((place[3] + number) % 2 ** 32,)
            elif title == "less" and kinds == ["at", "word"]:
                expected = first[:3] + ((first[3] - second) % 2 ** 32,)
            elif title == "less" and kinds == ["at", "at"] and first[:3] == second[:3]:
                expected = (first[3] - second[3]) % 2 ** 32
            else:
                self.assert_no_sense(of_two_values, title, first, second)
                continue
            self.assertEqual(of_two_values(title, first, second), expected)

    def test_of_two_words(self):
        for title, word in [("sum", 12), ("less", 2), ("both", 5), ("odd", 2), ("turn", 7 << 27)]:
            self.assertEqual(of_two_values(title, 7, 5), word)


if __name__ == "__main__":
    unittest.main()
