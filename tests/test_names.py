import copy
import itertools
import unittest

from joinload.errors import JoinError, Twice, Unmet
from joinload.names import aim, names_of, tells, wants

SIXTY = 10 ** 60 - 1


def made(name, told=(), wanted=()):
    """A piece; told holds (name, sort, stretch, offset), wanted (name, soft), all of it in three stretches."""
    stretches = []
    for number in range(3):
        fills = [(at, "low", each, 0, soft) for at, (each, soft) in enumerate(wanted) if at % 3 == number]
        stretches.append(("code", 1, [0] * 40, fills))
    return (name, stretches, sorted(told, key=lambda each: each[2:]))


def fill_of(name, add=0, soft=False, rule="low"):
    return (0, rule, name, add, soft)


class TellsTest(unittest.TestCase):
    def test_by_tell_and_weak_sorted(self):
        piece = made("p", [("zed", "tell", 0, 0), ("mid", "own", 0, 1), ("beta", "weak", 0, 2), ("alpha", "tell", 2, 0),
                           ("b", "weak", 2, 5), ("a_1", "tell", 1, 3), ("a1", "tell", 1, 3)])
        told = tells(piece)
        self.assertIs(type(told), list)
        self.assertEqual(told, ["a1", "a_1", "alpha", "b", "beta", "zed"])

    def test_none(self):
        self.assertEqual(tells(("p", [], [])), [])
        self.assertEqual(tells(made("p", [("x", "own", 0, 0)], [("y", False)])), [])

    def test_each_sort_by_itself(self):
        for sort, told in [("tell", ["x"]), ("weak", ["x"]), ("own", [])]:
            self.assertEqual(tells(made("p", [("x", sort, 1, 0)])), told)


class WantsTest(unittest.TestCase):
    def test_sorted_each_once(self):
        piece = made("p", [], [("z", False), ("b", False), ("z", False), ("a", False), ("b", False), ("z", False)])
        told = wants(piece)
        self.assertIs(type(told), list)
        self.assertEqual(told, ["a", "b", "z"])

    def test_soft_fills_want_nothing(self):
        self.assertEqual(wants(made("p", [], [("x", True), ("y", False), ("z", True)])), ["y"])

    def test_soft_and_not_soft_of_the_same_name(self):
        self.assertEqual(wants(made("p", [], [("x", True), ("x", False)])), ["x"])
        self.assertEqual(wants(made("p", [], [("x", False), ("x", True)])), ["x"])

    def test_own_names_are_not_wanted(self):
        self.assertEqual(wants(made("p", [("x", "own", 2, 1)], [("x", False), ("y", False)])), ["y"])

    def test_names_that_it_tells_itself_are_wanted(self):
        for sort in ("tell", "weak"):
            self.assertEqual(wants(made("p", [("x", sort, 0, 0)], [("x", False)])), ["x"])

    def test_each_rule_wants(self):
        for rule in ("whole", "high", "low", "near", "split"):
            piece = ("p", [("data", 1, [], []), ("data", 1, [0], [(0, rule, "x", 0, False)])], [])
            self.assertEqual(wants(piece), ["x"])

    def test_none(self):
        self.assertEqual(wants(("p", [], [])), [])
        self.assertEqual(wants(made("p", [("x", "tell", 0, 0), ("y", "weak", 0, 0), ("z", "own", 0, 0)])), [])


class NamesOfTest(unittest.TestCase):
    def assert_names(self, pieces, names):
        for order in itertools.permutations(pieces):
            told = names_of(list(order))
            self.assertIs(type(told), dict)
            self.assertEqual(told, names)
            for place in told.values():
                self.assertEqual([type(part) for part in place], [str, int, int])

    def assert_twice(self, pieces, name, one, other):
        for order in itertools.permutations(pieces):
            with self.assertRaises(Twice) as caught:
                names_of(list(order))
            self.assertIs(type(caught.exception), Twice)
            self.assertIsInstance(caught.exception, JoinError)
            told = caught.exception
            self.assertEqual((told.name, told.one, told.other), (name, one, other))

    def test_none(self):
        self.assertEqual(names_of([]), {})
        self.assert_names([made("p"), made("q", [("x", "own", 0, 0)])], {})

    def test_of_one_piece(self):
        self.assert_names([made("p", [("x", "tell", 0, 0), ("y", "weak", 1, 7), ("z", "own", 1, 8)])],
                          {"x": ("p", 0, 0), "y": ("p", 1, 7)})

    def test_strong_ahead_of_weak(self):
        self.assert_names([made("b", [("x", "weak", 0, 1)]), made("c", [("x", "tell", 1, 2)]),
                           made("a", [("x", "weak", 2, 3)])], {"x": ("c", 1, 2)})
        self.assert_names([made("b", [("x", "weak", 0, 1)]), made("a", [("x", "tell", 1, 2)]),
                           made("c", [("x", "weak", 2, 3)])], {"x": ("a", 1, 2)})

    def test_the_least_piece_among_weak_ones(self):
        self.assert_names([made("b", [("x", "weak", 0, 1)]), made("a1", [("x", "weak", 1, 2)]),
                           made("a_", [("x", "weak", 2, 3)]), made("c", [])], {"x": ("a1", 1, 2)})

    def test_piece_names_are_ordered_as_texts(self):
        self.assert_names([made("p9", [("x", "weak", 0, 1)]), made("p10", [("x", "weak", 1, 2)])], {"x": ("p10", 1, 2)})
        self.assert_names([made("pp", [("x", "weak", 0, 1)]), made("p", [("x", "weak", 1, 2)])], {"x": ("p", 1, 2)})

    def test_each_name_by_itself(self):
        self.assert_names(
            [made("a", [("x", "weak", 0, 0), ("y", "tell", 0, 1), ("w", "own", 0, 2)]),
             made("b", [("x", "tell", 1, 0), ("z", "weak", 1, 1), ("w", "weak", 1, 2)]),
             made("c", [("x", "weak", 2, 0), ("y", "weak", 2, 1), ("z", "weak", 2, 2), ("w", "own", 2, 3)])],
            {"x": ("b", 1, 0), "y": ("a", 0, 1), "z": ("b", 1, 1), "w": ("b", 1, 2)})

    def test_own_names_stand_for_nothing_and_are_never_twice(self):
        self.assert_names([made("a", [("x", "own", 0, 0)]), made("b", [("x", "own", 0, 1)]),
                           made("c", [("x", "tell", 0, 2)])], {"x": ("c", 0, 2)})

    def test_twice(self):
        self.assert_twice([made("b", [("x", "tell", 0, 0)]), made("a", [("x", "tell", 1, 1)])], "x", "a", "b")

    def test_twice_wanted_or_not_with_weak_ones_beside(self):
        self.assert_twice([made("b", [("x", "tell", 0, 0)]), made("a", [("x", "weak", 0, 0)]),
                           made("c", [("x", "tell", 0, 0)]), made("d", [], [("y", False)])], "x", "b", "c")

    def test_twice_with_the_two_least_of_three(self):
        self.assert_twice([made("b", [("x", "tell", 0, 0)]), made("a", [("x", "tell", 0, 0)]),
                           made("c", [("x", "tell", 0, 0)])], "x", "a", "b")

    def test_twice_with_the_least_name(self):
        self.assert_twice(
            [made("a", [("z", "tell", 0, 0), ("x", "tell", 1, 1)]), made("b", [("z", "tell", 0, 0)]),
             made("c", [("y", "tell", 0, 0), ("w", "tell", 0, 1)]),
             made("d", [("x", "tell", 0, 0), ("y", "tell", 0, 0), ("w", "weak", 0, 0)])], "x", "a", "d")


class AimTest(unittest.TestCase):
    def assert_place(self, told, place):
        self.assertIs(type(told), tuple)
        self.assertEqual([type(part) for part in told], [str, int, int])
        self.assertEqual(told, place)

    def test_own_ahead_of_told(self):
        piece = made("p", [("x", "own", 2, 5)])
        for soft in (False, True):
            self.assert_place(aim(piece, {"x": ("q", 0, 1)}, fill_of("x", 3, soft)), ("p", 2, 8))
            self.assert_place(aim(piece, {}, fill_of("x", 3, soft)), ("p", 2, 8))

    def test_told_among_the_pieces(self):
        piece = made("p", [("y", "own", 0, 0)])
        for soft in (False, True):
            self.assert_place(aim(piece, {"x": ("q", 7, 1)}, fill_of("x", 0, soft)), ("q", 7, 1))

    def test_names_go_ahead_of_what_the_piece_tells_itself(self):
        for sort in ("tell", "weak"):
            piece = made("p", [("x", sort, 2, 5)])
            self.assert_place(aim(piece, {"x": ("q", 0, 1)}, fill_of("x")), ("q", 0, 1))
            with self.assertRaises(Unmet):
                aim(piece, {}, fill_of("x"))
            self.assertEqual(aim(piece, {}, fill_of("x", 4, True)), 4)

    def test_add_is_counted_in(self):
        piece = made("p", [("own", "own", 1, 4)])
        names = {"x": ("q", 3, 10)}
        for add in (-2147483648, -11, -10, -5, -1, 0, 1, 2147483647):
            for soft in (False, True):
                self.assert_place(aim(piece, names, fill_of("own", add, soft)), ("p", 1, 4 + add))
                self.assert_place(aim(piece, names, fill_of("x", add, soft)), ("q", 3, 10 + add))

    def test_offsets_of_any_size(self):
        for offset in (-1, -SIXTY, SIXTY, 0, 2 ** 32):
            told = aim(made("p"), {"x": ("q", 3, offset)}, fill_of("x", -7))
            self.assert_place(told, ("q", 3, offset - 7))

    def test_a_soft_fill_aims_at_its_add_wrapped(self):
        for add, word in [(0, 0), (5, 5), (-1, 4294967295), (-2147483648, 2147483648), (2147483647, 2147483647)]:
            told = aim(made("p"), {"y": ("q", 0, 0)}, fill_of("x", add, True))
            self.assertIs(type(told), int)
            self.assertEqual(told, word)

    def test_unmet(self):
        for rule in ("whole", "high", "low", "near", "split"):
            with self.assertRaises(Unmet) as caught:
                aim(made("p", [("xx", "own", 0, 0)]), {"y": ("q", 0, 0)}, fill_of("x", 1, False, rule))
            self.assertIs(type(caught.exception), Unmet)
            self.assertEqual((caught.exception.name, caught.exception.piece), ("x", "p"))

    def test_each_rule_aims_alike(self):
        for rule in ("whole", "high", "low", "near", "split"):
            self.assertEqual(aim(made("p"), {"x": ("q", 1, 2)}, fill_of("x", 3, False, rule)), ("q", 1, 5))

    def test_by_the_names_of_the_pieces(self):
        pieces = [made("a", [("x", "weak", 0, 3)], [("x", False)]), made("b", [("x", "tell", 1, 4)])]
        self.assertEqual(aim(pieces[0], names_of(pieces), fill_of("x", 2)), ("b", 1, 6))


class OwnCopiesTest(unittest.TestCase):
    def pieces(self):
        return [made("b", [("x", "tell", 0, 0), ("y", "weak", 0, 1), ("z", "own", 0, 2)], [("y", False), ("z", False)]),
                made("a", [("x", "weak", 0, 0), ("y", "weak", 0, 1), ("z", "tell", 0, 2)], [("x", False), ("q", True)])]

    def test_nothing_handed_in_is_changed(self):
        pieces = self.pieces()
        names = {"x": ("b", 0, 0)}
        fill = fill_of("x", 5)
        tells(pieces[0])
        wants(pieces[0])
        names_of(pieces)
        aim(pieces[0], names, fill)
        self.assertEqual(pieces, self.pieces())
        self.assertEqual(names, {"x": ("b", 0, 0)})
        self.assertEqual(fill, fill_of("x", 5))

    def test_nothing_handed_in_is_changed_by_a_refusal(self):
        pieces = [made("b", [("x", "tell", 0, 0)]), made("a", [("x", "tell", 0, 0)])]
        before = copy.deepcopy(pieces)
        names = {}
        with self.assertRaises(Twice):
            names_of(pieces)
        with self.assertRaises(Unmet):
            aim(pieces[0], names, fill_of("x"))
        self.assertEqual(pieces, before)
        self.assertEqual(names, {})

    def test_what_was_told_is_the_askers_own(self):
        pieces = self.pieces()
        tells(pieces[0]).append("more")
        wants(pieces[0]).clear()
        names_of(pieces).clear()
        self.assertEqual(tells(pieces[0]), ["x", "y"])
        self.assertEqual(wants(pieces[0]), ["y"])
        self.assertEqual(names_of(pieces), {"x": ("b", 0, 0), "y": ("a", 0, 1), "z": ("a", 0, 2)})


if __name__ == "__main__":
    unittest.main()
