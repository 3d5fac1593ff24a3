import unittest

from joinload.deeds import a_of, b_of, c_of, deed_of, n_of, near_of, of_two_words, op_of, s_of, split_of

ALL_ONES = 4294967295


def deed(op=0, a=0, b=0, c=0, rest=0):
    """A word built by arithmetic: op and the three registers above the nineteen lowest bits."""
    return op * 2 ** 28 + a * 2 ** 25 + b * 2 ** 22 + c * 2 ** 19 + rest


def split_rest(way):
    """The nineteen lowest bits of a word with this way, nought between the two parts."""
    return way % 2 ** 12 % 2 ** 7 + way % 2 ** 12 // 2 ** 7 * 2 ** 14


class DeedsTest(unittest.TestCase):
    def assert_told(self, part, word, value):
        told = part(word)
        self.assertIs(type(told), int)
        self.assertEqual(told, value, (part.__name__, word))

    def test_op(self):
        for op in range(16):
            self.assert_told(op_of, deed(op=op), op)
            self.assert_told(op_of, deed(op=op, a=7, b=7, c=7, rest=2 ** 19 - 1), op)

    def test_titles(self):
        titles = "end tell put high add load store sum less both odd turn same under call go".split()
        for op, title in enumerate(titles):
            self.assertEqual(deed_of(deed(op=op)), title)
            self.assertEqual(deed_of(deed(op=op, a=7, b=7, c=7, rest=2 ** 19 - 1)), title)

    def test_a(self):
        for a in range(8):
            self.assert_told(a_of, deed(a=a), a)
            self.assert_told(a_of, deed(op=15, a=a, b=7, c=7, rest=2 ** 19 - 1), a)

    def test_b(self):
        for b in range(8):
            self.assert_told(b_of, deed(b=b), b)
            self.assert_told(b_of, deed(op=15, a=7, b=b, c=7, rest=2 ** 19 - 1), b)

    def test_c(self):
        for c in range(8):
            self.assert_told(c_of, deed(c=c), c)
            self.assert_told(c_of, deed(op=15, a=7, b=7, c=c, rest=2 ** 19 - 1), c)

    def test_n(self):
        for n in (0, 1, 32767, 32768, 65534, 65535):
            self.assert_told(n_of, deed(rest=n), n)
            self.assert_told(n_of, ALL_ONES - 65535 + n, n)

    def test_s(self):
        for s in (-32768, -32767, -1, 0, 1, 32766, 32767):
            self.assert_told(s_of, deed(rest=s % 2 ** 16), s)
            self.assert_told(s_of, ALL_ONES - 65535 + s % 2 ** 16, s)

    def test_near(self):
        for near in (-262144, -262143, -65536, -1, 0, 1, 65535, 65536, 262142, 262143):
            self.assert_told(near_of, deed(rest=near % 2 ** 19), near)
            self.assert_told(near_of, deed(op=15, a=7, b=7, c=7, rest=near % 2 ** 19), near)

    def test_each_split(self):
        between = 127 * 2 ** 7
        for way in range(-2048, 2048):
            self.assert_told(split_of, deed(rest=split_rest(way)), way)
            self.assert_told(split_of, deed(op=15, a=7, b=7, c=7, rest=split_rest(way) + between), way)

    def test_split_by_known_words(self):
        self.assert_told(split_of, 0x0000007F, 127)
        self.assert_told(split_of, 0x00004000, 128)
        self.assert_told(split_of, 0x0003C07F, 2047)
        self.assert_told(split_of, 0x00040000, -2048)
        self.assert_told(split_of, 0x0007C07F, -1)
        self.assert_told(split_of, 0xFFF83F80, 0)

    def test_all_parts_of_one_word(self):
        parts = (op_of, a_of, b_of, c_of, n_of, s_of, near_of, split_of)
        self.assertEqual([part(0) for part in parts], [0] * 8)
        self.assertEqual([part(ALL_ONES) for part in parts], [15, 7, 7, 7, 65535, -1, -1, -1])
        word = deed(op=9, a=5, b=3, c=6, rest=0x4A5C3)
        self.assertEqual([part(word) for part in parts], [9, 5, 3, 6, 0xA5C3, 0xA5C3 - 2 ** 16, 0x4A5C3 - 2 ** 19,
                                                          0x12 * 128 + 0x43 - 4096])

    def test_of_two_words(self):
        for title, first, second, word in [
                ("sum", 7, 5, 12), ("sum", ALL_ONES, 1, 0), ("sum", ALL_ONES, ALL_ONES, ALL_ONES - 1),
                ("less", 7, 5, 2), ("less", 5, 7, ALL_ONES - 1), ("less", 0, ALL_ONES, 1), ("both", 12, 10, 8),
                ("both", ALL_ONES, 77, 77), ("odd", 12, 10, 6), ("odd", ALL_ONES, ALL_ONES, 0), ("turn", 3, 0, 3),
                ("turn", 3, 1, 2 ** 31 + 1), ("turn", 3, 31, 6), ("turn", 3, 32, 3), ("turn", 3, ALL_ONES, 6)]:
            told = of_two_words(title, first, second)
            self.assertIs(type(told), int)
            self.assertEqual(told, word, (title, first, second))


if __name__ == "__main__":
    unittest.main()
