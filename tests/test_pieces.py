import copy
import itertools
import unittest

from joinload.errors import JoinError, NoPiece
from joinload.pieces import is_name, number_of, read_piece, shown_piece

TITLES = ["whole", "high", "low", "near", "split"]
SORTS = ["tell", "weak", "own"]
STEPS = [2 ** k for k in range(17)]

# A piece with each kind of row, and what it is read to.
FULL_TEXT = "\n".join([
    "piece full_1",
    "code 4",
    "tell main",
    "own here",
    "word 4294967295",
    "fill near other -2147483648",
    "weak mid",
    "word 0",
    "word 17",
    "soft whole maybe 2147483647",
    "own behind",
    "tell end",
    "data 65536",
    "code 1",
    "own empty",
    "data 2",
    "word 5",
    "fill split main 0",
    "word 6",
    "fill high main -1",
    "word 7",
    "soft low main 1",
])
FULL_PIECE = (
    "full_1",
    [
        ("code", 4, [4294967295, 0, 17], [(0, "near", "other", -2147483648, False),
                                          (2, "whole", "maybe", 2147483647, True)]),
        ("data", 65536, [], []),
        ("code", 1, [], []),
        ("data", 2, [5, 6, 7], [(0, "split", "main", 0, False), (1, "high", "main", -1, False),
                                (2, "low", "main", 1, True)]),
    ],
    [("main", "tell", 0, 0), ("here", "own", 0, 0), ("mid", "weak", 0, 1), ("behind", "own", 0, 3),
     ("end", "tell", 0, 3), ("empty", "own", 2, 0)],
)


class PiecesTest(unittest.TestCase):
    def assert_kinds(self, piece):
        """The kinds of point 14, the whole numbers no truths."""
        self.assertIs(type(piece), tuple)
        name, stretches, names = piece
        self.assertIs(type(name), str)
        self.assertIs(type(stretches), list)
        self.assertIs(type(names), list)
        for stretch in stretches:
            self.assertIs(type(stretch), tuple)
            self.assertEqual([type(part) for part in stretch], [str, int, list, list])
            self.assertTrue(all(type(word) is int for word in stretch[2]))
            for fill in stretch[3]:
                self.assertIs(type(fill), tuple)
                self.assertEqual([type(part) for part in fill], [int, str, str, int, bool])
        for told in names:
            self.assertIs(type(told), tuple)
            self.assertEqual([type(part) for part in told], [str, str, int, int])

    def assert_both_ways(self, text, piece):
        told = read_piece(text)
        self.assert_kinds(told)
        self.assertEqual(told, piece)
        shown = shown_piece(piece)
        self.assertIs(type(shown), str)
        self.assertEqual(shown, text)

    def assert_refused(self, rows, row):
        text = rows if isinstance(rows, str) else "\n".join(rows)
        with self.assertRaises(NoPiece) as caught:
            read_piece(text)
        self.assertIs(type(caught.exception), NoPiece)
        self.assertIsInstance(caught.exception, JoinError)
        self.assertIs(type(caught.exception.row), int)
        self.assertEqual(caught.exception.row, row, text[:200])


class IsNameTest(unittest.TestCase):
    def test_names(self):
        for text in ["a", "z", "a0", "a9", "a_", "a__", "main", "m_1_2", "z" * 16, "a" + "0" * 15, "a" + "_" * 15,
                     "piece", "word", "whole", "abcdefghijklmnop", "qrstuvwxyz012345", "b6789"]:
            self.assertIs(is_name(text), True, text)

    def test_no_names(self):
        for text in ["", "_", "0", "9", "_a", "0a", "9z", "A", "Z", "Main", "mAin", "maiN", "a" * 17, "a" * 100000,
                     " ", "\n", " a", "a ", "a b", "\na", "a\n", "a\nb", "a-b", "a.b", "-a", "a'", "a`", "a{", "{",
                     "`", "a/", "a:", "a@", "a[", "a~", "a!", "1" * 16]:
            self.assertIs(is_name(text), False, text[:40])

    def test_each_sign_ahead_and_behind(self):
        small = "abcdefghijklmnopqrstuvwxyz"
        for sign in [chr(code) for code in range(32, 127) if chr(code) != "%"] + ["\n"]:
            self.assertIs(is_name(sign), sign in small, sign)
            self.assertIs(is_name("a" + sign), sign in small + "0123456789_", sign)
            self.assertIs(is_name("a" + sign + "b"), sign in small + "0123456789_", sign)


class NumberOfTest(unittest.TestCase):
    def assert_number(self, text, least, most, number):
        told = number_of(text, least, most)
        self.assertIs(type(told), int, text)
        self.assertEqual(told, number)

    def test_each_small_number(self):
        for number in range(-1100, 1101):
            self.assert_number(str(number), -2000, 2000, number)

    def test_least_and_most_and_one_beyond(self):
        bounds = [(0, 4294967295), (-2147483648, 2147483647), (0, 0), (-5, -5), (1, 65536), (-9999999999, 9999999999),
                  (10, 99), (-99, -10), (-1, 1)]
        for least, most in bounds:
            self.assert_number(str(least), least, most, least)
            self.assert_number(str(most), least, most, most)
            self.assertIsNone(number_of(str(least - 1), least, most))
            self.assertIsNone(number_of(str(most + 1), least, most))

    def test_none_where_least_is_above_most(self):
        self.assertIsNone(number_of("5", 6, 4))

    def test_ten_figures_and_more(self):
        least, most = -9999999999, 9999999999
        self.assert_number("1000000000", least, most, 1000000000)
        self.assert_number("-9999999999", least, most, least)
        self.assert_number("9999999999", least, most, most)
        for figures in (11, 12, 200, 4300, 4301, 99999):
            for figure in "0189":
                self.assertIsNone(number_of(figure * figures, least, most))
                self.assertIsNone(number_of("-" + figure * figures, least, most))

    def test_eleven_figures_are_none_even_between_least_and_most(self):
        self.assertIsNone(number_of("10000000000", -10 ** 11, 10 ** 11))
        self.assertIsNone(number_of("-10000000000", -10 ** 11, 10 ** 11))

    def test_noughts_ahead(self):
        self.assert_number("0", -9, 9, 0)
        for text in ["00", "01", "007", "-0", "-00", "-01", "-007", "0" * 10, "0000000001", "-0000000001"]:
            self.assertIsNone(number_of(text, -9999999999, 9999999999), text)

    def test_other_texts(self):
        for text in ["", "-", "--", "--1", "+", "+1", "+0", "-+1", "1-", "1-1", " ", " 1", "1 ", "- 1", "-1 ", "\n",
                     "\n1", "1\n", "-\n1", "1_0", "1_000", "_1", "1_", "1.0", "1e3", "0x10", "a", "1a", "a1", "1,0",
                     "1 0", "0 ", " 0", "0\n", "one", "0b1", "1/", "1:", "/", ":"]:
            self.assertIsNone(number_of(text, -9999999999, 9999999999), text)

    def test_each_sign_by_itself_and_beside_a_figure(self):
        for sign in [chr(code) for code in range(32, 127) if chr(code) != "%"] + ["\n"]:
            if sign in "0123456789":
                self.assert_number("1" + sign, 0, 99, 10 + int(sign))
            else:
                for text in (sign, "1" + sign, "1" + sign + "1", "-1" + sign):
                    self.assertIsNone(number_of(text, -9999999999, 9999999999), text)


class BothWaysTest(PiecesTest):
    def test_a_piece_of_all(self):
        self.assert_both_ways(FULL_TEXT, FULL_PIECE)

    def test_without_stretches(self):
        self.assert_both_ways("piece a", ("a", [], []))
        self.assert_both_ways("piece " + "z" * 16, ("z" * 16, [], []))

    def test_stretches_without_words(self):
        self.assert_both_ways("piece a\ncode 1", ("a", [("code", 1, [], [])], []))
        self.assert_both_ways("piece a\ndata 8\ncode 1\ndata 1",
                              ("a", [("data", 8, [], []), ("code", 1, [], []), ("data", 1, [], [])], []))

    def test_each_step(self):
        for step in STEPS:
            for kind in ("code", "data"):
                self.assert_both_ways(f"piece a\n{kind} {step}\nword 1", ("a", [(kind, step, [1], [])], []))

    def test_words_at_either_edge(self):
        for word in (0, 1, 9, 10, 4294967294, 4294967295):
            self.assert_both_ways(f"piece a\ncode 1\nword {word}", ("a", [("code", 1, [word], [])], []))

    def test_each_rule_filled_and_soft(self):
        for rule, add in itertools.product(TITLES, (-2147483648, -1, 0, 1, 2147483647)):
            for head in ("fill", "soft"):
                if head == "soft" and rule in ("near", "split"):
                    continue
                text = f"piece a\ndata 1\nword 3\nword 4\n{head} {rule} b {add}\nword 5"
                piece = ("a", [("data", 1, [3, 4, 5], [(1, rule, "b", add, head == "soft")])], [])
                self.assert_both_ways(text, piece)

    def test_each_sort_at_each_offset(self):
        for sort in SORTS:
            for offset in range(4):
                for filled in itertools.product((False, True), repeat=3):
                    rows = ["piece a", "code 1", "code 2"]
                    for at in range(3):
                        rows += [f"{sort} x"] if at == offset else []
                        rows += [f"word {at}"] + (["fill low y 2"] if filled[at] else [])
                    rows += [f"{sort} x"] if offset == 3 else []
                    rows += ["data 1", "word 9"]
                    fills = [(at, "low", "y", 2, False) for at in range(3) if filled[at]]
                    piece = ("a", [("code", 1, [], []), ("code", 2, [0, 1, 2], fills), ("data", 1, [9], [])],
                             [("x", sort, 1, offset)])
                    self.assert_both_ways("\n".join(rows), piece)

    def test_names_at_one_offset_keep_their_order(self):
        for order in itertools.permutations([("x", "tell"), ("y", "own"), ("z", "weak")]):
            rows = ["piece a", "data 1", "word 1"] + [f"{sort} {name}" for name, sort in order] + ["word 2"]
            piece = ("a", [("data", 1, [1, 2], [])], [(name, sort, 0, 1) for name, sort in order])
            self.assert_both_ways("\n".join(rows), piece)

    def test_the_same_offset_of_unlike_stretches(self):
        self.assert_both_ways("piece a\ncode 1\ntell x\nword 1\nown y\ndata 1\nweak z\nword 2\ntell w",
                              ("a", [("code", 1, [1], []), ("data", 1, [2], [])],
                               [("x", "tell", 0, 0), ("y", "own", 0, 1), ("z", "weak", 1, 0), ("w", "tell", 1, 1)]))

    def test_names_like_words_of_the_rows(self):
        self.assert_both_ways("piece piece\ncode 1\ntell word\nword 1\nfill whole tell 0\nown fill",
                              ("piece", [("code", 1, [1], [(0, "whole", "tell", 0, False)])],
                               [("word", "tell", 0, 0), ("fill", "own", 0, 1)]))

    def test_names_of_sixteen_signs(self):
        name = "a123456789012345"
        self.assert_both_ways(f"piece {name}\ncode 1\nword 0\nfill low {name} 0\ntell {name}",
                              (name, [("code", 1, [0], [(0, "low", name, 0, False)])], [(name, "tell", 0, 1)]))

    def test_many_rows(self):
        rows = ["piece a", "data 1"]
        names = []
        fills = []
        for at in range(1000):
            rows += [f"own n{at}", f"word {at}", f"soft high m{at} {-at}"]
            names.append((f"n{at}", "own", 0, at))
            fills.append((at, "high", f"m{at}", -at, True))
        self.assert_both_ways("\n".join(rows), ("a", [("data", 1, list(range(1000)), fills)], names))

    def test_somewhat_beyond_is_shown(self):
        piece = ("a" * 17, [("code", 131072, [4294967296, -1], [(0, "low", "b" * 17, 2147483648, False),
                                                               (2, "low", "c", 0, False)])],
                 [("x", "tell", 0, 3), ("y", "own", 0, -1)])
        self.assertIs(type(shown_piece(piece)), str)


class RefusedTest(PiecesTest):
    def test_the_empty_text(self):
        self.assert_refused("", 1)
        self.assert_refused("\n", 1)
        self.assert_refused(" ", 1)

    def test_a_line_feed_at_the_end(self):
        self.assert_refused("piece a\n", 2)
        self.assert_refused("piece a\ncode 1\n", 3)
        self.assert_refused("piece a\ncode 1\nword 0\n", 4)
        self.assert_refused(FULL_TEXT + "\n", 23)

    def test_the_first_row(self):
        for row in ["code 1", "data 1", "word 0", "tell x", "weak x", "own x", "fill low x 0", "soft low x 0", "piece",
                    "piece ", "piece A", "piece 1a", "piece _a", "piece a b", "piece a ", " piece a", "piece  a",
                    "Piece a", "PIECE a", "a", "pieces a", "piece a" + "a" * 16, "piece" + "a", "whole 1 0 0",
                    "piece\na", "piece -1", "piece "]:
            self.assert_refused(row, 1)
            self.assert_refused(row + "\npiece a", 1)

    def test_another_piece_row(self):
        self.assert_refused("piece a\npiece a", 2)
        self.assert_refused("piece a\npiece b\ncode 1", 2)
        self.assert_refused("piece a\ncode 1\nword 0\npiece b\nword 1", 4)
        self.assert_refused(FULL_TEXT + "\npiece b", 23)

    def test_ahead_of_the_first_stretch(self):
        for row in ["word 0", "tell x", "weak x", "own x", "fill low x 0", "soft low x 0"]:
            self.assert_refused(["piece a", row], 2)
            self.assert_refused(["piece a", row, "code 1"], 2)

    def bad_rows(self):
        """Rows that can stand nowhere, even right behind a word."""
        yield from ["", " ", "  ", "x", "words 0", "wor 0", "Word 0", "WORD 0", "word", "code", "data", "fill", "soft",
                    "tell", "weak", "own", "piece", "piece b", "lean low 0", "part 0", "whole 1 0 0", "strong x", "0"]
        for number in ["", "-1", "-0", "00", "01", "4294967296", "99999999999", "1" * 200, "+1", "1_0", "a", "1.0", "-",
                       " 1", "1 ", "1 1", "0x1"]:
            yield f"word {number}"
        for step in ["", "0", "3", "5", "6", "12", "65535", "65537", "131072", "-1", "-2", "-0", "01", "02",
                     "4294967296", "1_6", "+1", "a", "1 1", "1 ", " 1", "1" * 200]:
            yield f"code {step}"
            yield f"data {step}"
        for name in ["", "A", "aB", "_", "_a", "1", "1a", "a" * 17, "a-b", "x y", "x ", " x"]:
            for sort in SORTS:
                yield f"{sort} {name}"
            yield f"fill low {name} 0"
            yield f"soft low {name} 0"
        for rule in ["", "Low", "LOW", "lo", "lows", "far", "low ", " low", "1", "x"]:
            yield f"fill {rule} x 0"
            yield f"soft {rule} x 0"
        for add in ["", "-0", "00", "01", "-01", "-2147483649", "2147483648", "+1", "1_0", "a", "-", "0 ", " 0", "0 0",
                    "9" * 200]:
            yield f"fill low x {add}"
            yield f"soft low x {add}"
        for row in ["fill", "fill low", "fill low x", "fill low 0", "fill x 0", "fill x low 0", "fill low x 0 soft"]:
            yield row
            yield row.replace("fill", "soft")
        yield from ["soft near x 0", "soft split x 0"]
        for row in ["word 0", "code 1", "data 2", "tell x", "weak x", "own x", "fill low x 0", "soft low x 0"]:
            yield from [" " + row, row + " ", row.replace(" ", "  "), row.replace(" ", ""), row.upper(), row + " x",
                        row.replace(" ", "\n", 1)]

    def test_rows_that_stand_nowhere(self):
        for row in self.bad_rows():
            self.assert_refused(["piece a", "code 1", "word 0", row], 4)
            self.assert_refused(["piece a", "code 1", "word 0", row, "word 0", "data 1", "word 1"], 4)
            self.assert_refused(["piece a", row, "code 1", "word 0"], 2)
            if row != "piece b":
                self.assert_refused([row, "piece a", "code 1"], 1)
            self.assert_refused(FULL_TEXT + "\n" + row, 23)

    def test_fills_not_right_behind_a_word(self):
        for fill in ["fill low x 0", "soft low x 0", "fill near x 0"]:
            for ahead in ["code 1", "data 1", "tell y", "weak y", "own y", "fill low z 0", "soft low z 0"]:
                rows = ["piece a", "code 1", "word 0", ahead, fill]
                self.assert_refused(rows, 5)
                self.assert_refused(rows + ["word 0", "tell w"], 5)
            self.assert_refused(["piece a", "code 1", fill], 3)
            self.assert_refused(["piece a", fill], 2)
            self.assert_refused([fill], 1)

    def test_soft_ways(self):
        for rule in ("near", "split"):
            self.assert_refused(["piece a", "code 1", "word 0", f"soft {rule} x 0"], 4)
            self.assert_refused(["piece a", "code 1", "word 0", f"soft {rule} x 0", "word 1"], 4)

    def test_a_name_told_twice(self):
        for first, second in itertools.product(SORTS, SORTS):
            self.assert_refused(["piece a", "code 1", f"{first} x", f"{second} x"], 4)
            self.assert_refused(["piece a", "code 1", f"{first} x", "word 0", f"{second} x", "word 0"], 5)
            self.assert_refused(["piece a", "code 1", f"{first} x", "data 1", f"{second} x"], 5)
            self.assert_refused(["piece a", "code 1", f"{first} x", f"{first} y", "data 1", "word 0",
                                 f"{second} z", f"{second} y"], 8)

    def test_names_that_are_told_once_may_be_wanted_often(self):
        read_piece("piece a\ncode 1\ntell x\nword 0\nfill low x 0\nword 1\nfill low x 0\nown a")

    def test_the_first_of_several_bad_rows(self):
        rows = FULL_TEXT.split("\n")
        for first in range(len(rows)):
            for second in range(first + 1, len(rows)):
                bad = list(rows)
                bad[first] = "bad"
                bad[second] = ""
                self.assert_refused(bad, first + 1)

    def test_each_row_counts(self):
        rows = FULL_TEXT.split("\n")
        for place in range(len(rows)):
            self.assert_refused(rows[:place] + ["word -1"] + rows[place:], place + 1)

    def test_any_short_text_of_rows_is_refused_or_written_again(self):
        rows = ["piece a", "code 1", "data 2", "word 3", "fill low x 0", "soft split x 0", "soft whole y 1", "tell x",
                "own x", "weak y", ""]
        stood = 0
        for length in range(5):
            for chosen in itertools.product(rows, repeat=length):
                text = "\n".join(("piece b",) + chosen)
                try:
                    piece = read_piece(text)
                except NoPiece as refusal:
                    self.assertTrue(2 <= refusal.row <= length + 1)
                else:
                    stood += 1
                    self.assert_kinds(piece)
                    self.assertEqual(shown_piece(piece), text)
        self.assertGreater(stood, 100)


class OwnCopiesTest(PiecesTest):
    def test_what_was_read_is_the_askers_own(self):
        first = read_piece(FULL_TEXT)
        for kind, step, words, fills in first[1]:
            words.append(1)
            fills.clear()
        first[1].clear()
        first[2].append("x")
        self.assertEqual(read_piece(FULL_TEXT), FULL_PIECE)

    def test_lists_of_one_piece_are_unlike(self):
        piece = read_piece("piece a\ncode 1\ncode 1\ndata 1")
        lists = [piece[1], piece[2]] + [part for stretch in piece[1] for part in stretch[2:]]
        self.assertEqual(len({id(each) for each in lists}), 8)

    def test_what_is_shown_is_not_changed(self):
        piece = copy.deepcopy(FULL_PIECE)
        shown_piece(piece)
        self.assertEqual(piece, FULL_PIECE)
        self.assertEqual(shown_piece(piece), FULL_TEXT)


if __name__ == "__main__":
    unittest.main()
