"""Points 23 and 24: what is reached."""
import copy
import itertools
import unittest

from joinload.names import names_of
from joinload.ways import reached

RULES = ("whole", "high", "low", "near", "split")
SIXTY = 10 ** 60 - 1


def stretch(wanted="", kind="code", words=None, rule="whole", soft=False, add=0):
    """A stretch with a fill for each name, told with blanks between them, at every second word."""
    fills = [(2 * at + 1, rule, name, add, soft) for at, name in enumerate(wanted.split())]
    many = 2 * len(fills) if words is None else words
    return (kind, 1, list(range(many)), fills)


def aim_of(piece, names, fill):
    """The key that a fill aims at, or None where it is a number; told anew by the words of point 19."""
    at, rule, name, add, soft = fill
    for each, sort, number, offset in piece[2]:
        if each == name and sort == "own":
            return (piece[0], number)
    if name in names:
        return names[name][:2]
    assert soft, "no aim is to be refused here"
    return None


def expected(pieces, names, root):
    """The reached keys, by going round until nothing is added."""
    keys = {root}
    while True:
        more = set(keys)
        for piece in pieces:
            for number, (kind, step, words, fills) in enumerate(piece[1]):
                if (piece[0], number) in keys:
                    more |= {aim_of(piece, names, fill) for fill in fills} - {None}
        if more == keys:
            return keys
        keys = more


class WaysTest(unittest.TestCase):
    def assert_reached(self, pieces, names, root, keys=None):
        """Each part of point 24, and the keys if they are told."""
        told = reached(pieces, names, root)
        self.assertIs(type(told), list)
        self.assertEqual(told[0], (root, None, None))
        self.assertEqual(len({key for key, by, at in told}), len(told))
        self.assertEqual({key for key, by, at in told}, expected(pieces, names, root))
        if keys is not None:
            self.assertEqual(sorted(key for key, by, at in told), sorted(keys))
        by_name = {piece[0]: piece for piece in pieces}
        ahead = []
        for row in told:
            self.assert_row(by_name, names, row, ahead)
            ahead.append(row[0])
        return told

    def assert_row(self, by_name, names, row, ahead):
        self.assertEqual((type(row), len(row)), (tuple, 3))
        key, by, at = row
        self.assertEqual([type(key)] + [type(part) for part in key], [tuple, str, int])
        if not ahead:
            return
        self.assertEqual([type(by)] + [type(part) for part in by] + [type(at)], [tuple, str, int, int])
        self.assertIn(by, ahead)
        piece = by_name[by[0]]
        fills = [fill for fill in piece[1][by[1]][3] if fill[0] == at]
        self.assertEqual([aim_of(piece, names, fill) for fill in fills], [key])


class ReachedTest(WaysTest):
    def test_the_root_alone(self):
        piece = ("p", [stretch(), stretch(), stretch(words=3, kind="data")], [("x", "tell", 1, 0)])
        for number in range(3):
            self.assertEqual(reached([piece], {"x": ("p", 1, 0)}, ("p", number)), [(("p", number), None, None)])

    def test_by_each_rule(self):
        for rule in RULES:
            for soft in (False, True):
                if soft and rule in ("near", "split"):
                    continue
                pieces = [("p", [stretch("x", rule=rule, soft=soft), stretch("y")], []),
                          ("q", [stretch(), stretch(words=5)], [("y", "tell", 0, 0), ("x", "tell", 1, 2)])]
                told = self.assert_reached(pieces, names_of(pieces), ("p", 0), [("p", 0), ("q", 1)])
                self.assertEqual(told, [(("p", 0), None, None), (("q", 1), ("p", 0), 1)])

    def test_by_an_own_name_ahead_of_a_told_one(self):
        pieces = [("p", [stretch("x"), stretch()], [("x", "own", 1, 0)]), ("q", [stretch()], [("x", "tell", 0, 0)])]
        self.assert_reached(pieces, names_of(pieces), ("p", 0), [("p", 0), ("p", 1)])
        self.assert_reached(pieces, {"x": ("q", 0, 0)}, ("p", 0), [("p", 0), ("p", 1)])
        self.assert_reached(pieces, {}, ("p", 0), [("p", 0), ("p", 1)])

    def test_by_an_own_name_of_the_wanting_piece_alone(self):
        pieces = [("p", [stretch("y")], []), ("q", [stretch(), stretch("x"), stretch()],
                                             [("y", "weak", 1, 0), ("x", "own", 2, 0)]),
                  ("r", [stretch()], [("x", "tell", 0, 0)])]
        self.assert_reached(pieces, names_of(pieces), ("p", 0), [("p", 0), ("q", 1), ("q", 2)])

    def test_by_a_told_name_of_the_same_piece(self):
        for sort in ("tell", "weak"):
            pieces = [("p", [stretch("x"), stretch(), stretch()], [("x", sort, 2, 0)])]
            self.assert_reached(pieces, names_of(pieces), ("p", 0), [("p", 0), ("p", 2)])

    def test_by_what_the_name_stands_for_and_not_by_what_the_piece_tells(self):
        pieces = [("p", [stretch("x"), stretch()], [("x", "weak", 1, 0)]), ("q", [stretch()], [("x", "tell", 0, 0)])]
        self.assert_reached(pieces, names_of(pieces), ("p", 0), [("p", 0), ("q", 0)])

    def test_by_an_add_that_leads_beyond_the_ends(self):
        for add in (-2147483648, -4, -3, -1, 0, 1, 2, 3, 1000, 2147483647):
            for kind in ("code", "data"):
                pieces = [("p", [stretch("x y", add=add, kind=kind), stretch(words=3), stretch(words=3)],
                           [("y", "own", 1, 3)]),
                          ("q", [stretch(words=3), stretch(words=5), stretch(words=3)], [("x", "tell", 1, 3)])]
                self.assert_reached(pieces, names_of(pieces), ("p", 0), [("p", 0), ("p", 1), ("q", 1)])

    def test_stretches_without_words(self):
        pieces = [("p", [stretch("x y")], []),
                  ("q", [stretch(), stretch()], [("x", "tell", 0, 0), ("y", "tell", 1, 0)])]
        self.assert_reached(pieces, names_of(pieces), ("p", 0), [("p", 0), ("q", 0), ("q", 1)])

    def test_a_circle(self):
        pieces = [("p", [stretch("b"), stretch("c")], [("a", "tell", 0, 0), ("b", "tell", 1, 0)]),
                  ("q", [stretch("a"), stretch("a")], [("c", "tell", 0, 0)])]
        circle = [("p", 0), ("p", 1), ("q", 0)]
        for root in circle:
            self.assert_reached(pieces, names_of(pieces), root, circle)
        self.assert_reached(pieces, names_of(pieces), ("q", 1), circle + [("q", 1)])

    def test_a_stretch_that_aims_at_itself(self):
        pieces = [("p", [stretch("x y x"), stretch("y")], [("x", "tell", 0, 2), ("y", "own", 0, 3)])]
        self.assertEqual(reached(pieces, names_of(pieces), ("p", 0)), [(("p", 0), None, None)])
        self.assert_reached(pieces, names_of(pieces), ("p", 1), [("p", 0), ("p", 1)])

    def test_a_soft_fill_that_aims_at_a_number_reaches_nothing(self):
        for rule in ("whole", "high", "low"):
            for add in (-1, 0, 1, 2):
                pieces = [("p", [stretch("x", rule=rule, soft=True, add=add), stretch()], [("z", "tell", 1, 0)]),
                          ("q", [stretch()], [("x", "own", 0, 0)])]
                self.assert_reached(pieces, names_of(pieces), ("p", 0), [("p", 0)])

    def test_a_number_between_two_that_aim_at_stretches(self):
        piece = ("p", [("code", 1, [0] * 9, [(2, "low", "x", 0, False), (4, "low", "q", 1, True),
                                             (7, "low", "y", 0, True)]), stretch(), stretch()],
                 [("x", "own", 1, 0), ("y", "own", 2, 0)])
        told = self.assert_reached([piece], {}, ("p", 0), [("p", 0), ("p", 1), ("p", 2)])
        self.assertEqual(sorted(told[1:]), [(("p", 1), ("p", 0), 2), (("p", 2), ("p", 0), 7)])

    def test_aimed_at_by_a_stretch_alone_that_is_not_reached(self):
        pieces = [("p", [stretch("b"), stretch("c"), stretch()], [("a", "tell", 0, 0), ("c", "tell", 2, 0)]),
                  ("q", [stretch(), stretch("a c d"), stretch("d")], [("b", "tell", 0, 0), ("d", "tell", 1, 0)])]
        self.assert_reached(pieces, names_of(pieces), ("p", 0), [("p", 0), ("q", 0)])

    def test_several_ways_to_the_same_stretch(self):
        pieces = [("p", [stretch("x x y x"), stretch("x x")], [("y", "own", 1, 0)]),
                  ("q", [stretch("y")], [("x", "tell", 0, 0), ("y", "own", 0, 0)])]
        for order in itertools.permutations(pieces):
            self.assert_reached(list(order), names_of(pieces), ("p", 0), [("p", 0), ("p", 1), ("q", 0)])

    def test_pieces_that_nobody_reaches(self):
        pieces = [("p", [stretch()], []), ("q", [], []), ("r", [stretch("z")], [("z", "tell", 0, 0)])]
        for order in itertools.permutations(pieces):
            self.assert_reached(list(order), names_of(pieces), ("p", 0), [("p", 0)])

    def test_names_that_are_not_the_pieces_own(self):
        pieces = [("p", [stretch("x y"), stretch(), stretch("w")], [("x", "tell", 0, 0), ("y", "weak", 1, 0)]),
                  ("q", [stretch(), stretch("z"), stretch()], [])]
        for offset in (0, 1, -1, 4, 5, 2 ** 32, -2 ** 32, SIXTY, -SIXTY):
            names = {"x": ("q", 1, offset), "y": ("p", 2, offset), "z": ("p", 1, offset), "w": ("q", 2, offset)}
            self.assert_reached(pieces, names, ("p", 0), [("p", 0), ("q", 1), ("p", 2), ("p", 1), ("q", 2)])
            names = {"x": ("p", 0, offset), "y": ("p", 0, offset), "z": ("q", 1, offset), "w": ("p", 2, offset)}
            self.assert_reached(pieces, names, ("p", 0), [("p", 0)])

    def test_a_told_name_that_is_not_among_the_names_is_a_number_for_a_soft_fill(self):
        pieces = [("p", [stretch("x", soft=True), stretch()], [("x", "tell", 1, 0)])]
        self.assert_reached(pieces, {}, ("p", 0), [("p", 0)])
        self.assert_reached(pieces, {"x": ("p", 1, 0)}, ("p", 0), [("p", 0), ("p", 1)])

    def test_numbers_of_two_figures_and_names_that_begin_alike(self):
        pieces = [("p", [stretch("n10 n1")] + [stretch() for number in range(11)],
                   [("n1", "own", 1, 0), ("n10", "own", 10, 0)]),
                  ("p1", [stretch(), stretch()], []), ("p10", [stretch()], [])]
        self.assert_reached(pieces, {}, ("p", 0), [("p", 0), ("p", 1), ("p", 10)])

    def test_every_net_of_three_stretches(self):
        wanted = ["", "a", "b", "c", "a b", "b c", "c a", "a b c"]
        for first, second, third in itertools.product(wanted, repeat=3):
            pieces = [("q", [stretch(second), stretch(third)], [("b", "tell", 0, 0), ("c", "own", 1, 0)]),
                      ("p", [stretch(first)], [("a", "weak", 0, 0)])]
            names = {"a": ("p", 0, 0), "b": ("q", 0, 0), "c": ("q", 1, 0)}
            for root in (("p", 0), ("q", 0), ("q", 1)):
                self.assert_reached(pieces, names, root)

    def test_the_bounds(self):
        """A hundred pieces of two stretches, each of a thousand words with fills, a chain through all of them."""
        pieces = []
        for each in range(100):
            fills = [(at, "low", f"own{at}", 0, False) for at in range(999)]
            names = [(f"own{at}", "own", 0, at) for at in range(999)]
            pieces.append((f"p{each}", [("code", 1, [0] * 1000, fills + [(999, "whole", f"b{each}", 0, False)]),
                                        ("data", 1, [0] * 1000, [(999, "whole", f"a{each + 1}", 0, True)])],
                           [(f"a{each}", "tell", 0, 0)] + names + [(f"b{each}", "tell", 1, 1000)]))
        told = reached(pieces, names_of(pieces), ("p0", 0))
        chain = [(f"p{each}", number) for each in range(100) for number in (0, 1)]
        self.assertEqual(told, [(chain[0], None, None)] + [(chain[k], chain[k - 1], 999) for k in range(1, 200)])


class OwnCopiesTest(WaysTest):
    def asked(self):
        pieces = [("p", [stretch("x z", soft=True), stretch("y")], [("o", "own", 1, 0)]),
                  ("q", [stretch("o"), stretch()], [("x", "tell", 0, 1), ("o", "own", 1, 0)])]
        return [pieces, {"x": ("q", 0, 1), "y": ("p", 0, -4)}, ("p", 0)]

    def test_nothing_handed_in_is_changed(self):
        asked = self.asked()
        reached(*asked)
        self.assertEqual(asked, self.asked())

    def test_changing_what_was_told_changes_no_later_answer(self):
        asked = self.asked()
        told = reached(*asked)
        before = copy.deepcopy(told)
        self.assertEqual(len(told), 3)
        told.append("more")
        told[0] = None
        self.assertEqual(reached(*asked), before)
        self.assertEqual(asked, self.asked())

    def test_changing_what_was_handed_in_changes_nothing_told(self):
        asked = self.asked()
        told = reached(*asked)
        for name, stretches, names in asked[0]:
            for kind, step, words, fills in stretches:
                words.clear()
                fills.clear()
            stretches.clear()
            names.clear()
        asked[0].clear()
        asked[1].clear()
        self.assertEqual(told, reached(*self.asked()))


if __name__ == "__main__":
    unittest.main()
