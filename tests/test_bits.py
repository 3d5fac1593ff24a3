import unittest

from joinload.bits import field, signed, turned, with_field, wrapped

MANY_WORDS = 4294967296
SIXTY_NINES = 10 ** 60 - 1
SIXTY_MIXED = 314159265358979323846264338327950288419716939937510582097494

WORDS = [0, 1, 2, 0x7FFFFFFF, 0x80000000, 0x80000001, 0xFFFFFFFE, 0xFFFFFFFF,
         0x12345678, 0xDEADBEEF, 0xAAAAAAAA, 0x55555555, 0x00010000, 0x0000FFFF]
LARGE = [SIXTY_NINES, SIXTY_MIXED, 2 ** 199 - 1, 2 ** 199, 2 ** 199 + 1, 10 ** 59]
FIELDS = [(low, many) for low in range(32) for many in range(1, 33 - low)]


def bits_of(number, many):
    """The lowest bits as a list, told by halving alone."""
    bits = []
    for turn in range(many):
        bits.append(number % 2)
        number //= 2
    return bits


def number_of_bits(bits):
    return sum(bit * 2 ** k for k, bit in enumerate(bits))


def both_signs(numbers):
    return list(numbers) + [-number for number in numbers]


class BitsTest(unittest.TestCase):
    def assert_int(self, value):
        self.assertIs(type(value), int)


class WrappedTest(BitsTest):
    def check(self, number):
        word = wrapped(number)
        self.assert_int(word)
        self.assertTrue(0 <= word <= 4294967295, (number, word))
        self.assertEqual((number - word) % MANY_WORDS, 0, number)

    def test_words_stay(self):
        for word in WORDS:
            self.check(word)
            self.assertEqual(wrapped(word), word)

    def test_beyond_either_edge(self):
        self.assertEqual(wrapped(4294967295), 4294967295)
        self.assertEqual(wrapped(4294967296), 0)
        self.assertEqual(wrapped(4294967297), 1)
        self.assertEqual(wrapped(0), 0)
        self.assertEqual(wrapped(-1), 4294967295)
        self.assertEqual(wrapped(-2), 4294967294)

    def test_multiples_and_their_neighbours(self):
        for times in both_signs([0, 1, 2, 3, 7, 2 ** 31, 2 ** 32, 10 ** 49, 2 ** 160]):
            number = times * MANY_WORDS
            for beside in range(-3, 4):
                self.check(number + beside)
            self.assertEqual(wrapped(number - 1), 4294967295)
            self.assertEqual(wrapped(number), 0)
            self.assertEqual(wrapped(number + 1), 1)

    def test_below_nought(self):
        self.assertEqual(wrapped(-4294967295), 1)
        self.assertEqual(wrapped(-4294967296), 0)
        self.assertEqual(wrapped(-4294967297), 4294967295)
        self.assertEqual(wrapped(-2147483648), 2147483648)
        for word in WORDS:
            self.check(-word)

    def test_up_to_sixty_figures(self):
        for number in both_signs(LARGE):
            self.check(number)
        for figures in range(1, 61):
            self.check(10 ** figures - 1)
            self.check(1 - 10 ** figures)
        self.assertEqual(wrapped(2 ** 199 + 5), 5)
        self.assertEqual(wrapped(5 - 2 ** 199), 5)


class FieldTest(BitsTest):
    def test_known_fields(self):
        self.assertEqual(field(0x12345678, 0, 4), 8)
        self.assertEqual(field(0x12345678, 4, 8), 0x67)
        self.assertEqual(field(0x12345678, 28, 4), 1)
        self.assertEqual(field(0x12345678, 0, 32), 0x12345678)
        self.assertEqual(field(0x80000000, 31, 1), 1)
        self.assertEqual(field(0xFFFFFFFF, 0, 32), 4294967295)

    def test_each_field_of_each_word(self):
        for word in WORDS:
            bits = bits_of(word, 32)
            for low, many in FIELDS:
                told = field(word, low, many)
                self.assert_int(told)
                self.assertEqual(told, number_of_bits(bits[low:low + many]), (word, low, many))

    def test_somewhat_beyond_is_not_refused(self):
        for low, many in [(-1, 4), (0, 0), (0, 33), (31, 2), (32, 1), (5, -1), (32, 32)]:
            self.assert_int(field(0xDEADBEEF, low, many))
        for word in (-1, MANY_WORDS, MANY_WORDS + 1):
            self.assert_int(field(word, 3, 5))


class WithFieldTest(BitsTest):
    def check(self, word, low, many, number):
        told = with_field(word, low, many, number)
        self.assert_int(told)
        bits = bits_of(word, 32)
        bits[low:low + many] = bits_of(number, many)
        self.assertEqual(bits_of(told, 32), bits, (word, low, many, number))
        self.assertEqual(told, number_of_bits(bits), (word, low, many, number))
        self.assertEqual(field(told, low, many), number % 2 ** many)

    def test_known_fields(self):
        self.assertEqual(with_field(0x12345678, 8, 8, 0xAB), 0x1234AB78)
        self.assertEqual(with_field(0x12345678, 0, 32, 0x9ABCDEF0), 0x9ABCDEF0)
        self.assertEqual(with_field(0, 31, 1, 1), 0x80000000)
        self.assertEqual(with_field(0xFFFFFFFF, 31, 1, 0), 0x7FFFFFFF)
        self.assertEqual(with_field(0xFFFFFFFF, 0, 16, 0), 0xFFFF0000)

    def test_each_field_takes_numbers_that_it_holds(self):
        for low, many in FIELDS:
            for number in (0, 1, 2 ** many // 2, 2 ** many - 1):
                self.check(0xDEADBEEF, low, many, number)
                self.check(0, low, many, number)
                self.check(0xFFFFFFFF, low, many, number)

    def test_each_field_takes_numbers_below_nought(self):
        self.assertEqual(with_field(0, 4, 4, -1), 0xF0)
        self.assertEqual(with_field(0, 4, 4, -8), 0x80)
        self.assertEqual(with_field(0xFFFFFFFF, 0, 32, -2), 0xFFFFFFFE)
        for low, many in FIELDS:
            for number in (-1, -2, -(2 ** many // 2), -2 ** many, -2 ** many - 1):
                self.check(0x12345678, low, many, number)

    def test_each_field_takes_numbers_larger_than_it(self):
        self.assertEqual(with_field(0, 4, 4, 0x1F), 0xF0)
        self.assertEqual(with_field(0xFFFFFFFF, 4, 4, 0x10), 0xFFFFFF0F)
        for low, many in FIELDS:
            for number in (2 ** many, 2 ** many + 1, 3 * 2 ** many - 1, 0xFFFFFFFF, MANY_WORDS + 1):
                self.check(0x55555555, low, many, number)

    def test_each_field_takes_numbers_of_sixty_figures(self):
        for low, many in FIELDS:
            for number in both_signs(LARGE):
                self.check(0xAAAAAAAA, low, many, number)

    def test_somewhat_beyond_is_not_refused(self):
        for low, many in [(-1, 4), (0, 0), (0, 33), (31, 2), (32, 1), (5, -1), (32, 32)]:
            told = with_field(0xDEADBEEF, low, many, 0xFFFFFFFF)
            self.assert_int(told)
            self.assertTrue(0 <= told <= 4294967295)
        for word in (-1, MANY_WORDS, MANY_WORDS + 1):
            self.assertTrue(0 <= with_field(word, 3, 5, 7) <= 4294967295)


class SignedTest(BitsTest):
    def check(self, number, many):
        told = signed(number, many)
        self.assert_int(told)
        self.assertTrue(-2 ** (many - 1) <= told <= 2 ** (many - 1) - 1, (number, many, told))
        self.assertEqual((number - told) % 2 ** many, 0, (number, many, told))

    def test_both_edges_and_one_beyond(self):
        for many in range(1, 33):
            least = -2 ** (many - 1)
            most = 2 ** (many - 1) - 1
            self.assertEqual(signed(least, many), least)
            self.assertEqual(signed(most, many), most)
            self.assertEqual(signed(least - 1, many), most)
            self.assertEqual(signed(most + 1, many), least)

    def test_known_numbers(self):
        self.assertEqual([signed(number, 1) for number in (-2, -1, 0, 1, 2, 3)], [0, -1, 0, -1, 0, -1])
        self.assertEqual([signed(number, 2) for number in range(5)], [0, 1, -2, -1, 0])
        self.assertEqual(signed(0xFFFF, 16), -1)
        self.assertEqual(signed(0x8000, 16), -32768)
        self.assertEqual(signed(0xFFFFFFFF, 32), -1)
        self.assertEqual(signed(0x7FFFFFFF, 32), 2147483647)

    def test_words_and_below_nought(self):
        for many in range(1, 33):
            for number in both_signs(WORDS) + list(range(-9, 10)):
                self.check(number, many)

    def test_up_to_sixty_figures(self):
        for many in range(1, 33):
            for number in both_signs(LARGE):
                self.check(number, many)

    def test_somewhat_beyond_is_not_refused(self):
        for many in (-1, 0, 33, 40):
            self.assert_int(signed(0xDEADBEEF, many))


class TurnedTest(BitsTest):
    def check(self, word, by):
        told = turned(word, by)
        self.assert_int(told)
        bits = bits_of(word, 32)
        for k in range(32):
            self.assertEqual(told // 2 ** k % 2, bits[(k + by) % 32], (word, by, k))
        self.assertTrue(0 <= told <= 4294967295, (word, by))

    def test_to_the_right(self):
        self.assertEqual(turned(1, 1), 0x80000000)
        self.assertEqual(turned(2, 1), 1)
        self.assertEqual(turned(0x12345678, 4), 0x81234567)
        self.assertEqual(turned(0x12345678, 28), 0x23456781)

    def test_named_turns(self):
        for word in WORDS:
            for by in (0, 1, 31, 32, 33, 64):
                self.check(word, by)
            self.assertEqual(turned(word, 0), word)
            self.assertEqual(turned(word, 32), word)
            self.assertEqual(turned(word, 64), word)
            self.assertEqual(turned(word, 33), turned(word, 1))

    def test_each_turn_up_to_a_hundred(self):
        for by in range(101):
            self.check(0xDEADBEEF, by)
            self.check(1, by)

    def test_turns_of_sixty_figures(self):
        for word in WORDS:
            for by in LARGE:
                self.check(word, by)

    def test_somewhat_beyond_is_not_refused(self):
        for word, by in [(0xDEADBEEF, -1), (MANY_WORDS, 1), (-1, 1)]:
            self.assert_int(turned(word, by))


if __name__ == "__main__":
    unittest.main()
