"""Points 30 and 31: wholes as text."""
import copy
import itertools
import re
import unittest

from joinload.errors import JoinError, NoWhole
from joinload.joining import joined
from joinload.wholes import read_whole, shown_whole

WORD = 4294967295
FAR = 9999999999

FULL = """whole 16 100 37
part 0
word 1
lean high -5
word 2
lean low 4294967300
word 0
part 3
part 16
part 16
word 4294967295
lean whole 9999999999
word 7
part 40
word 8
part 99
word 9
lean whole -9999999999
part 100
part 100"""
FULL_PARTS = [(0, [1, 2, 0]), (3, []), (16, []), (16, [WORD, 7]), (40, [8]), (99, [9]), (100, []), (100, [])]
FULL_WHOLE = (16, 100, 37, FULL_PARTS,
              [(0, "high", -5), (1, "low", 4294967300), (16, "whole", FAR), (99, "whole", -FAR)])


def is_number(text, least, most):
    return re.fullmatch(r"0|-?[1-9][0-9]{0,9}", text) is not None and least <= int(text) <= most


def first_bad_row(text):
    """The first row that cannot stand, or None where all do; told anew by the words of point 31."""
    size, end, in_part, ahead = 0, 0, False, ""
    for number, row in enumerate(text.split("\n"), start=1):
        head, *parts = row.split(" ")
        good = False
        if (head, len(parts)) == ("whole", 3):
            good = number == 1 and parts[0] in [str(2 ** power) for power in range(17)]
            good = good and is_number(parts[1], 0, WORD) and is_number(parts[2], 0, int(parts[1]))
            size = int(parts[1]) if good else 0
        elif (head, len(parts)) == ("part", 1):
            good = number > 1 and is_number(parts[0], end, size)
            end, in_part = int(parts[0]) if good else 0, True
        elif (head, len(parts)) == ("word", 1):
            good = in_part and end < size and is_number(parts[0], 0, WORD)
            end += 1
        elif (head, len(parts)) == ("lean", 2):
            good = ahead == "word" and parts[0] in ("whole", "high", "low") and is_number(parts[1], -FAR, FAR)
        if not good:
            return number
        ahead = head
    return None


class WholesTest(unittest.TestCase):
    def assert_kinds(self, whole):
        self.assertEqual((type(whole), len(whole)), (tuple, 5))
        self.assertEqual([type(part) for part in whole], [int, int, int, list, list])
        for part in whole[3]:
            self.assertEqual([type(part), type(part[0]), type(part[1])], [tuple, int, list])
            self.assertEqual(len(part), 2)
            self.assertTrue(all(type(word) is int for word in part[1]))
        for lean in whole[4]:
            self.assertEqual([type(lean)] + [type(part) for part in lean], [tuple, int, str, int])

    def assert_written(self, text, whole):
        """The text tells the whole, and the whole is written as the text."""
        told = read_whole(text)
        self.assert_kinds(told)
        self.assertEqual(told, whole)
        self.assertEqual(shown_whole(whole), text)
        self.assertIs(type(shown_whole(whole)), str)
        self.assertEqual(shown_whole(told), text)

    def assert_refused(self, text, row):
        with self.assertRaises(JoinError) as caught:
            read_whole(text)
        self.assertIs(type(caught.exception), NoWhole)
        self.assertIs(type(caught.exception.row), int)
        self.assertEqual(caught.exception.row, row, text)

    def assert_stands(self, text):
        self.assertEqual(shown_whole(read_whole(text)), text)

    def assert_as_the_rows_stand(self, text):
        """Held against first_bad_row; tells whether the text stands."""
        row = first_bad_row(text)
        if row is None:
            self.assert_kinds(read_whole(text))
            self.assert_stands(text)
        else:
            self.assert_refused(text, row)
        return row is None


class WrittenTest(WholesTest):
    def test_without_parts(self):
        self.assert_written("whole 1 0 0", (1, 0, 0, [], []))
        self.assert_written("whole 65536 4294967295 4294967295", (65536, WORD, WORD, [], []))
        self.assert_written("whole 2 10 0", (2, 10, 0, [], []))

    def test_all_kinds_of_rows(self):
        self.assert_written(FULL, FULL_WHOLE)

    def test_words(self):
        self.assert_written("whole 1 3 1\npart 0\nword 0\nword 4294967295\nword 10",
                            (1, 3, 1, [(0, [0, WORD, 10])], []))

    def test_a_gap_ahead_of_the_first_part_and_behind_the_last(self):
        self.assert_written("whole 1 9 9\npart 2\nword 5\npart 4\nword 6", (1, 9, 9, [(2, [5]), (4, [6])], []))

    def test_parts_without_words(self):
        self.assert_written("whole 1 0 0\npart 0\npart 0\npart 0", (1, 0, 0, [(0, []), (0, []), (0, [])], []))
        self.assert_written("whole 1 5 0\npart 2\npart 5", (1, 5, 0, [(2, []), (5, [])], []))

    def test_several_parts_at_the_same_place(self):
        self.assert_written("whole 1 9 0\npart 4\npart 4\npart 4\nword 3\nlean low 1\npart 5\npart 5\nword 2",
                            (1, 9, 0, [(4, []), (4, []), (4, [3]), (5, []), (5, [2])], [(4, "low", 1)]))

    def test_each_step(self):
        for power in range(17):
            self.assert_written(f"whole {2 ** power} 7 3", (2 ** power, 7, 3, [], []))

    def test_targets(self):
        for rule in ("whole", "high", "low"):
            for target in (-FAR, -4294967296, -10, -1, 0, 1, 10, 4294967295, 4294967296, FAR):
                self.assert_written(f"whole 1 1 0\npart 0\nword 7\nlean {rule} {target}",
                                    (1, 1, 0, [(0, [7])], [(0, rule, target)]))

    def test_leans_behind_each_word(self):
        for behind in itertools.product((False, True), repeat=4):
            rows, leans = ["whole 1 9 0"], []
            for at, has_lean in enumerate(behind):
                place = at + 3 * (at >= 2)
                rows += [f"part {place}"] * (at % 2 == 0) + [f"word {at}"]
                if has_lean:
                    rows.append(f"lean high {at}")
                    leans.append((place, "high", at))
            self.assert_written("\n".join(rows), (1, 9, 0, [(0, [0, 1]), (5, [2, 3])], leans))

    def test_at_the_upper_end(self):
        self.assert_written("whole 1 4294967295 0\npart 4294967294\nword 1\npart 4294967295",
                            (1, WORD, 0, [(WORD - 1, [1]), (WORD, [])], []))

    def test_long_texts(self):
        rows = ["whole 1 5400 0"]
        for place in range(0, 5400, 3):
            rows += [f"part {place}", f"word {place}", f"lean low {-place}", "word 4294967295"]
        text = "\n".join(rows)
        self.assertTrue(90000 < len(text) <= 100000)
        self.assert_written(text, (1, 5400, 0, [(place, [place, WORD]) for place in range(0, 5400, 3)],
                                   [(place, "low", -place) for place in range(0, 5400, 3)]))

    def test_what_joined_tells(self):
        fills = [(0, "whole", "d", 2147483647, False), (1, "near", "d", 0, False), (2, "low", "x", -2147483648, True),
                 (3, "high", "main", -2147483648, False)]
        given = [("p", [("code", 4, [1, 2, 3, WORD], fills), ("code", 8, [], []), ("data", 65536, [9], []),
                        ("data", 2, [], [])],
                  [("main", "tell", 0, 4), ("e", "own", 1, 0), ("d", "own", 2, 1)])]
        whole = joined(given, [], "main")
        self.assertEqual(whole[:3], (65536, 65537, 4))
        self.assert_written(shown_whole(whole), whole)
        self.assert_written(shown_whole(joined([("p", [("data", 2, [], [])], [("x", "weak", 0, 0)])], [], "x")),
                            (2, 0, 0, [], []))

    def test_every_text_of_some_rows(self):
        rows = ["part 0", "part 1", "part 2", "word 5", "word 0", "lean low -1", "lean whole 3"]
        stands = 0
        for many in range(6):
            for some in itertools.product(rows, repeat=many):
                stands += self.assert_as_the_rows_stand("\n".join(("whole 2 2 1",) + some))
        self.assertGreater(stands, 100)


class RefusedTest(WholesTest):
    def assert_row_refused(self, row, ahead="whole 4 8 2\npart 1\nword 5"):
        """The row cannot stand behind those ahead: as the last one, and with good and bad rows behind it."""
        number = len(ahead.split("\n")) + 1
        for behind in ("", "\npart 8", "\nword 0", "\nbad"):
            self.assert_refused(ahead + "\n" + row + behind, number)

    def assert_row_stands(self, row, ahead="whole 4 8 2\npart 1\nword 5"):
        self.assert_stands(ahead + "\n" + row)

    def test_the_empty_text(self):
        self.assert_refused("", 1)

    def test_a_line_feed_at_the_end(self):
        self.assert_refused("whole 1 0 0\n", 2)
        self.assert_refused(FULL + "\n", 21)
        self.assert_refused("\n", 1)

    def test_a_line_feed_at_the_beginning(self):
        self.assert_refused("\n" + FULL, 1)

    def test_rows_that_are_none(self):
        bad = ["", " ", "bad", "word", "part", "lean", "whole", "Part 3", "PART 3", "parts 3", "part 3 4", "word 3 4",
               "word  3", " word 3", "word 3 ", "part  3", " part 3", "part 3 ", "lean low", "lean low 3 4",
               "lean  low 3", "lean low  3", " lean low 3", "lean low 3 ", "lean 3", "low 3", "fill low x 3",
               "soft low x 3", "piece x", "code 1", "data 1", "tell x", "5", "word5", "word\t5", "part"]
        for row in bad:
            self.assert_row_refused(row)
            self.assert_row_refused(row, "whole 4 8 2")
            self.assert_row_refused(row, "whole 4 8 2\npart 0")
            self.assert_refused(row, 1)

    def test_the_first_row_is_a_whole_row(self):
        for row in ("part 0", "word 1", "lean low 1", "piece x", "whole", "whole 1", "whole 1 2", "whole 1 2 2 2",
                    "whole 1 2 2 ", " whole 1 2 2", "whole  1 2 2", "whole 1  2 2", "whole 1 2  2", "Whole 1 2 2",
                    "1 2 2", "wholes 1 2 2", "whole1 2 2"):
            self.assert_refused(row, 1)
            self.assert_refused(row + "\nwhole 1 2 2", 1)

    def test_no_other_row_is(self):
        for row in ("whole 4 8 2", "whole 1 0 0", "whole 4 8 3"):
            for ahead in ("whole 4 8 2", "whole 4 8 2\npart 0", "whole 4 8 2\npart 1\nword 5",
                          "whole 4 8 2\npart 1\nword 5\nlean low 1"):
                self.assert_row_refused(row, ahead)

    def test_steps(self):
        for step in ("0", "3", "5", "6", "7", "12", "100", "65535", "65537", "131072", "4294967296", "-1", "-2", "01",
                     "02", "+2", "-0", "", "x", "2.", "1e3", "0x2", "00", "2_0", "16384 "):
            self.assert_refused(f"whole {step} 8 2", 1)
            self.assert_refused(f"whole {step} 8 2\npart 0", 1)

    def test_sizes(self):
        for size in ("4294967296", "9999999999", "10000000000", "-1", "-0", "00", "01", "+1", "", "x", "00000000001",
                     "42949672950", "1_0"):
            self.assert_refused(f"whole 1 {size} 0", 1)
        for size in ("0", "1", "4294967295", "4294967294"):
            self.assert_stands(f"whole 1 {size} 0")

    def test_entries(self):
        for size in (0, 1, 9, 10, WORD):
            self.assert_stands(f"whole 1 {size} {size}")
            self.assert_stands(f"whole 1 {size} 0")
            self.assert_refused(f"whole 1 {size} {size + 1}", 1)
        for entry in ("-1", "-0", "00", "02", "+2", "", "x", "00000000002", "10000000000"):
            self.assert_refused(f"whole 1 8 {entry}", 1)

    def test_places_from_the_end_of_the_part_ahead_to_the_size(self):
        ahead = "whole 4 8 2\npart 1\nword 5\nword 6\nlean low 0"
        for place in (0, 1, 2, 9, 10, 4294967295, 4294967296):
            self.assert_row_refused(f"part {place}", ahead)
        for place in (3, 4, 7, 8):
            self.assert_row_stands(f"part {place}", ahead)
        for place in ("-1", "-3", "03", "+3", "", "x", "-0", "00000000003", "3.0"):
            self.assert_row_refused(f"part {place}", ahead)

    def test_places_of_the_first_part(self):
        for place in (0, 1, 7, 8):
            self.assert_row_stands(f"part {place}", "whole 4 8 2")
        for place in ("9", "10", "-1", "-0", "00", "4294967296"):
            self.assert_row_refused(f"part {place}", "whole 4 8 2")
        self.assert_row_stands("part 0", "whole 1 0 0")
        self.assert_row_refused("part 1", "whole 1 0 0")

    def test_places_behind_a_part_without_words(self):
        self.assert_row_refused("part 4", "whole 4 8 2\npart 5")
        self.assert_row_stands("part 5", "whole 4 8 2\npart 5")
        self.assert_row_stands("part 8", "whole 4 8 2\npart 8")
        self.assert_row_refused("part 7", "whole 4 8 2\npart 8")
        self.assert_row_refused("part 4", "whole 4 8 2\npart 3\nword 1\nword 1\npart 6")

    def test_a_word_below_the_size(self):
        self.assert_row_stands("word 1", "whole 4 8 2\npart 7")
        self.assert_row_refused("word 1", "whole 4 8 2\npart 8")
        self.assert_row_refused("word 1", "whole 4 8 2\npart 7\nword 1")
        self.assert_row_refused("word 1", "whole 4 8 2\npart 7\nword 1\nlean low 1")
        self.assert_row_refused("word 1", "whole 4 8 2\npart 7\nword 1\npart 8")
        self.assert_row_stands("word 1", "whole 4 8 2\npart 6\nword 1")
        self.assert_row_refused("word 1", "whole 1 0 0\npart 0")
        self.assert_refused("whole 1 1 0\npart 0\nword 0\nword 0", 4)

    def test_a_word_ahead_of_the_first_part(self):
        self.assert_row_refused("word 1", "whole 4 8 2")
        self.assert_row_refused("word 0", "whole 1 0 0")

    def test_words_that_are_none(self):
        for word in ("4294967296", "9999999999", "10000000000", "42949672950", "-1", "-0", "00", "01", "+1", "", "x",
                     "00000000001", "1.0", "0x1"):
            self.assert_row_refused(f"word {word}")
            self.assert_row_refused(f"word {word}", "whole 4 8 2\npart 0")
        for word in ("0", "9", "10", "4294967295"):
            self.assert_row_stands(f"word {word}")

    def test_rules_of_a_lean(self):
        for rule in ("near", "split", "Low", "LOW", "lows", "lo", "", "x", "0", "wholelow", "part", "word", "lean"):
            self.assert_row_refused(f"lean {rule} 3")
        for rule in ("whole", "high", "low"):
            self.assert_row_stands(f"lean {rule} 3")

    def test_targets(self):
        for target in ("10000000000", "-10000000000", "99999999999", "-0", "00", "01", "-01", "+1", "", "-", "x", "--1",
                       "00000000001", "1-", "1.0"):
            self.assert_row_refused(f"lean low {target}")
        for target in ("9999999999", "-9999999999", "0", "-1", "4294967296"):
            self.assert_row_stands(f"lean low {target}")

    def test_a_lean_right_behind_a_word(self):
        lean = "lean low 3"
        for ahead in ("whole 4 8 2", "whole 4 8 2\npart 0", "whole 4 8 2\npart 0\nword 1\nlean low 3",
                      "whole 4 8 2\npart 0\nword 1\nlean high 4", "whole 4 8 2\npart 0\nword 1\npart 1",
                      "whole 4 8 2\npart 0\nword 1\nlean low 3\npart 1", "whole 4 8 2\npart 0\nword 1\npart 3"):
            self.assert_row_refused(lean, ahead)
        self.assert_row_stands(lean, "whole 4 8 2\npart 0\nword 1\nlean low 3\nword 2")
        self.assert_refused(lean, 1)

    def test_each_reason_at_every_row(self):
        good = FULL.split("\n")
        bad = ["", "bad", "part 101", "word 4294967296", "word -0", "lean near 0", "lean split 0", "part 03", "word  3",
               "lean low 99999999999", "part -1", "whole 3 100 37", "whole 16 100 101", "whole 16 4294967296 37"]
        for row in bad:
            for number in range(len(good) + 1):
                self.assert_refused("\n".join(good[:number] + [row] + good[number:]), number + 1)

    def test_the_first_of_several(self):
        good = FULL.split("\n")
        for first, second in itertools.combinations(range(len(good)), 2):
            rows = list(good)
            rows[first] = "bad"
            rows[second] = "word 00"
            self.assert_refused("\n".join(rows), first + 1)
            rows[first] = "lean near 0"
            rows[second] = ""
            self.assert_refused("\n".join(rows), first + 1)

    def test_rows_left_out_twice_or_exchanged(self):
        good = FULL.split("\n")
        for number in range(len(good)):
            self.assert_as_the_rows_stand("\n".join(good[:number] + good[number + 1:]))
            self.assert_as_the_rows_stand("\n".join(good[:number + 1] + good[number:]))
        for first, second in itertools.combinations(range(len(good)), 2):
            rows = list(good)
            rows[first], rows[second] = rows[second], rows[first]
            self.assert_as_the_rows_stand("\n".join(rows))


class OwnCopiesTest(WholesTest):
    def test_nothing_handed_in_is_changed(self):
        whole = copy.deepcopy(FULL_WHOLE)
        shown_whole(whole)
        self.assertEqual(whole, FULL_WHOLE)

    def test_changing_what_was_told_changes_no_later_answer(self):
        told = read_whole(FULL)
        for place, words in told[3]:
            words.append(99)
        told[3].pop()
        told[4].clear()
        self.assertEqual(read_whole(FULL), FULL_WHOLE)

    def test_changing_what_was_handed_in_changes_nothing_told(self):
        whole = copy.deepcopy(FULL_WHOLE)
        text = shown_whole(whole)
        whole[3].clear()
        whole[4].clear()
        self.assertEqual(text, FULL)
        self.assertEqual(shown_whole(FULL_WHOLE), FULL)


if __name__ == "__main__":
    unittest.main()
