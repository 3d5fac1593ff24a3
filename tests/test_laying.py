"""Points 25 and 26: stretches laid out."""
import copy
import itertools
import unittest

from joinload.laying import laid, size_of, step_of

STEPS = [2 ** power for power in range(17)]


def of_one_piece(*stretches):
    """A piece of stretches told as (kind, step, how many words), and all its keys."""
    piece = ("p", [(kind, step, [7] * many, []) for kind, step, many in stretches], [])
    return [piece], [("p", number) for number in range(len(stretches))]


def expected(pieces, keys):
    """The rows, the size and the step, told anew: place by place up to the next multiple."""
    found = {(name, number): each for name, stretches, names in pieces for number, each in enumerate(stretches)}
    rows, end, step = [], 0, 1
    for kind in ("code", "data"):
        for key in sorted(key for key in keys if found[key][0] == kind):
            place = next(place for place in itertools.count(end) if place % found[key][1] == 0)
            rows.append((key, place))
            end = place + len(found[key][2])
            step = max(step, found[key][1])
    return rows, end, step


class LayingTest(unittest.TestCase):
    def assert_laid(self, pieces, keys, rows, size, step):
        told = laid(pieces, keys)
        self.assertIs(type(told), list)
        self.assertEqual(told, rows)
        for row in told:
            self.assertEqual((type(row), len(row), type(row[0]), len(row[0])), (tuple, 2, tuple, 2))
            self.assertEqual([type(row[0][0]), type(row[0][1]), type(row[1])], [str, int, int])
        for number, wanted in ((size_of(pieces, keys), size), (step_of(pieces, keys), step)):
            self.assertIs(type(number), int)
            self.assertEqual(number, wanted)

    def assert_as_expected(self, pieces, keys):
        self.assert_laid(pieces, keys, *expected(pieces, keys))


class LaidTest(LayingTest):
    def test_no_keys(self):
        self.assert_laid([], [], [], 0, 1)
        self.assert_laid([("p", [("code", 16, [1, 2], [])], [])], [], [], 0, 1)

    def test_one_behind_another(self):
        pieces, keys = of_one_piece(("code", 1, 3), ("code", 1, 5), ("code", 1, 1))
        self.assert_laid(pieces, keys, [(("p", 0), 0), (("p", 1), 3), (("p", 2), 8)], 9, 1)

    def test_code_ahead_of_data(self):
        pieces, keys = of_one_piece(("data", 1, 3), ("code", 1, 5), ("data", 1, 1), ("code", 1, 2))
        self.assert_laid(pieces, keys, [(("p", 1), 0), (("p", 3), 5), (("p", 0), 7), (("p", 2), 10)], 11, 1)

    def test_code_ahead_of_data_across_pieces(self):
        pieces = [("b", [("code", 1, [1], []), ("data", 1, [1, 2], [])], []),
                  ("a", [("data", 1, [1, 2, 3], []), ("code", 1, [1, 2, 3, 4], [])], [])]
        rows = [(("a", 1), 0), (("b", 0), 4), (("a", 0), 5), (("b", 1), 8)]
        for order in itertools.permutations(pieces):
            for keys in itertools.permutations([key for key, place in rows]):
                self.assert_laid(list(order), list(keys), rows, 10, 1)

    def test_some_of_the_stretches(self):
        pieces, keys = of_one_piece(("code", 1, 3), ("data", 65536, 5), ("code", 2, 1), ("data", 4, 2))
        self.assert_laid(pieces, [("p", 3), ("p", 0)], [(("p", 0), 0), (("p", 3), 4)], 6, 4)
        self.assert_laid(pieces, [("p", 2)], [(("p", 2), 0)], 1, 2)
        for many in range(5):
            for some in itertools.permutations(keys, many):
                self.assert_as_expected(pieces, list(some))

    def test_numbers_are_sorted_as_numbers(self):
        stretches = [("code" if number % 3 else "data", 1, number % 5) for number in range(25)]
        pieces, keys = of_one_piece(*stretches)
        order = [key for key in keys if key[1] % 3] + [key for key in keys if not key[1] % 3]
        for given in (keys, keys[::-1], keys[13:] + keys[:13], sorted(keys, key=str)):
            self.assertEqual([key for key, place in laid(pieces, given)], order)
            self.assert_as_expected(pieces, given)

    def test_names_are_sorted_as_texts(self):
        names = ["p", "p1", "p10", "p2", "p_", "pa", "pp", "q"]
        pieces = [(name, [("code", 1, [0] * (at + 1), [])] * 2, []) for at, name in enumerate(names)]
        keys = [(name, number) for name in names for number in (0, 1)]
        for given in (keys, keys[::-1], keys[1::2] + keys[::2]):
            self.assertEqual([key for key, place in laid(pieces[::-1], given)], keys)
            self.assert_as_expected(pieces[::-1], given)

    def test_a_piece_name_goes_ahead_of_a_number(self):
        pieces = [("b", [("code", 1, [1], [])], []), ("a", [("code", 1, [1], [])] * 3, [])]
        self.assert_laid(pieces, [("b", 0), ("a", 2)], [(("a", 2), 0), (("b", 0), 1)], 2, 1)


class StepsTest(LayingTest):
    def test_the_first_lies_at_nought_whatever_its_step(self):
        for step in STEPS:
            for kind in ("code", "data"):
                pieces, keys = of_one_piece((kind, step, 3))
                self.assert_laid(pieces, keys, [(("p", 0), 0)], 3, step)

    def test_small_behind_great(self):
        pieces, keys = of_one_piece(("code", 65536, 3), ("code", 4, 2), ("code", 2, 1), ("code", 1, 1))
        self.assert_laid(pieces, keys, [(("p", 0), 0), (("p", 1), 4), (("p", 2), 6), (("p", 3), 7)], 8, 65536)

    def test_great_behind_small(self):
        pieces, keys = of_one_piece(("code", 1, 1), ("code", 2, 1), ("code", 4, 2), ("data", 65536, 3))
        self.assert_laid(pieces, keys, [(("p", 0), 0), (("p", 1), 2), (("p", 2), 4), (("p", 3), 65536)], 65539, 65536)

    def test_around_each_multiple(self):
        for step in STEPS[:10]:
            for many, place in ((step - 1, step), (step, step), (step + 1, 2 * step)):
                if many == 0:
                    place = 0
                pieces, keys = of_one_piece(("code", 1, many), ("data", step, 1))
                self.assert_laid(pieces, keys, [(("p", 0), 0), (("p", 1), place)], place + 1, step)

    def test_each_step_behind_one_word(self):
        for one, other in itertools.product(STEPS, repeat=2):
            pieces, keys = of_one_piece(("code", one, 1), ("code", other, 1))
            self.assert_laid(pieces, keys, [(("p", 0), 0), (("p", 1), other)], other + 1, max(one, other))

    def test_the_greatest_step_wherever_it_stands(self):
        for order in itertools.permutations([("code", 2, 1), ("data", 8, 1), ("code", 32, 1), ("data", 1, 1)]):
            pieces, keys = of_one_piece(*order)
            self.assertEqual(step_of(pieces, keys), 32)
            self.assert_as_expected(pieces, keys)

    def test_steps_of_stretches_that_are_not_laid_are_of_no_account(self):
        pieces, keys = of_one_piece(("code", 64, 70), ("code", 2, 1), ("data", 4, 1))
        self.assert_laid(pieces, keys[1:], [(("p", 1), 0), (("p", 2), 4)], 5, 4)

    def test_every_three(self):
        stretches = [(kind, step, many) for kind in ("code", "data") for step in (1, 4, 16) for many in (0, 1, 5)]
        for three in itertools.product(stretches, repeat=3):
            self.assert_as_expected(*of_one_piece(*three))


class WithoutWordsTest(LayingTest):
    def test_alone(self):
        for step in (1, 2, 65536):
            pieces, keys = of_one_piece(("code", step, 0))
            self.assert_laid(pieces, keys, [(("p", 0), 0)], 0, step)

    def test_several_at_the_same_place(self):
        pieces, keys = of_one_piece(("code", 4, 0), ("code", 1, 0), ("code", 2, 3), ("code", 1, 0), ("data", 1, 0))
        rows = [(("p", 0), 0), (("p", 1), 0), (("p", 2), 0), (("p", 3), 3), (("p", 4), 3)]
        self.assert_laid(pieces, keys, rows, 3, 4)

    def test_at_the_end_it_counts_with_the_gap_ahead(self):
        pieces, keys = of_one_piece(("code", 1, 3), ("data", 8, 0))
        self.assert_laid(pieces, keys, [(("p", 0), 0), (("p", 1), 8)], 8, 8)

    def test_in_the_middle_the_gap_ahead_stays(self):
        pieces, keys = of_one_piece(("code", 1, 3), ("code", 8, 0), ("code", 1, 2))
        self.assert_laid(pieces, keys, [(("p", 0), 0), (("p", 1), 8), (("p", 2), 8)], 10, 8)

    def test_none_has_words(self):
        pieces, keys = of_one_piece(("data", 65536, 0), ("code", 16, 0), ("data", 1, 0))
        self.assert_laid(pieces, keys, [(("p", 1), 0), (("p", 0), 0), (("p", 2), 0)], 0, 65536)


class BoundsTest(LayingTest):
    def test_two_hundred_stretches_of_a_thousand_words(self):
        words = [0] * 1000
        pieces = [(f"p{number}", [("data", 1024, words, []), ("code", 65536, words, [])], []) for number in range(100)]
        keys = [(name, number) for name, stretches, names in pieces for number in (0, 1)]
        rows = []
        for at, (name, stretches, names) in enumerate(sorted(pieces)):
            rows.append(((name, 1), at * 65536))
        for at, (name, stretches, names) in enumerate(sorted(pieces)):
            rows.append(((name, 0), 99 * 65536 + 1024 + at * 1024))
        self.assert_laid(pieces, keys, rows, rows[-1][1] + 1000, 65536)


class OwnCopiesTest(LayingTest):
    def asked(self):
        pieces = [("q", [("data", 4, [1, 2, 3], [(0, "low", "x", 0, True)])], [("y", "tell", 0, 1)]),
                  ("p", [("data", 1, [4], []), ("code", 2, [5], [])], [])]
        return [pieces, [("q", 0), ("p", 1), ("p", 0)]]

    def test_nothing_handed_in_is_changed(self):
        for function in (laid, size_of, step_of):
            asked = self.asked()
            function(*asked)
            self.assertEqual(asked, self.asked())

    def test_changing_what_was_told_changes_no_later_answer(self):
        asked = self.asked()
        told = laid(*asked)
        before = copy.deepcopy(told)
        told.clear()
        self.assertEqual(laid(*asked), before)
        self.assertEqual((size_of(*asked), step_of(*asked)), (7, 4))
        self.assertEqual(asked, self.asked())

    def test_changing_what_was_handed_in_changes_nothing_told(self):
        asked = self.asked()
        told = laid(*asked)
        asked[0].clear()
        asked[1].clear()
        self.assertEqual(told, [(("p", 1), 0), (("p", 0), 1), (("q", 0), 4)])


if __name__ == "__main__":
    unittest.main()
