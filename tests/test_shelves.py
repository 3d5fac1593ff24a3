import copy
import itertools
import unittest

from joinload.errors import JoinError, SameName, Unmet
from joinload.shelves import reasons, taken


def made(name, tell="", want="", weak="", own="", soft=""):
    """A piece that tells and wants these names, told with blanks between them."""
    fills = [(each, False) for each in want.split()] + [(each, True) for each in soft.split()]
    words = list(range(len(fills)))
    fills = [(at, "whole", each, at, is_soft) for at, (each, is_soft) in enumerate(fills)]
    sorts = [("tell", tell), ("weak", weak), ("own", own)]
    names = [(each, sort, 0, 0) for sort, told in sorts for each in told.split()]
    return (name, [("code", 1, words, fills), ("data", 4, [7], [])], names)


def told_by(piece):
    return [name for name, sort, stretch, offset in piece[2] if sort in ("tell", "weak")]


def wanted_by(piece):
    own = [name for name, sort, stretch, offset in piece[2] if sort == "own"]
    return [fill[2] for stretch in piece[1] for fill in stretch[3] if not fill[4] and fill[2] not in own]


def expected(given, shelves, entry):
    """What point 20 takes, told by going round until nothing is added, with the names that are unmet."""
    on_shelves = [piece for shelf in shelves for piece in shelf]
    chosen = list(given)
    while True:
        wanted = [entry] + [name for piece in chosen for name in wanted_by(piece)]
        wanted = [name for name in wanted if not any(name in told_by(piece) for piece in given)]
        first = [next((piece for piece in on_shelves if name in told_by(piece)), None) for name in wanted]
        more = [piece for piece in first if piece is not None and piece not in chosen]
        if not more:
            unmet = sorted(name for name, piece in zip(wanted, first) if piece is None)
            return sorted(chosen), unmet
        chosen.append(more[0])


class ShelvesTest(unittest.TestCase):
    def assert_taken(self, given, shelves, entry, names):
        told = taken(given, shelves, entry)
        self.assertIs(type(told), list)
        self.assertEqual([piece[0] for piece in told], names)
        every = {piece[0]: piece for piece in given + [each for shelf in shelves for each in shelf]}
        self.assertEqual(told, [every[name] for name in names])
        self.assert_reasons(given, shelves, entry, names)

    def assert_reasons(self, given, shelves, entry, names):
        """Each part of point 22."""
        told = reasons(given, shelves, entry)
        self.assertIs(type(told), list)
        given_names = [piece[0] for piece in given]
        self.assertEqual(sorted(piece for piece, name, by in told), [name for name in names if name not in given_names])
        on_shelves = [piece for shelf in shelves for piece in shelf]
        every = {piece[0]: piece for piece in given + on_shelves}
        ahead = list(given_names)
        for reason in told:
            self.assertIs(type(reason), tuple)
            piece, name, by = reason
            self.assertFalse(any(name in told_by(each) for each in given), reason)
            self.assertEqual(next(each for each in on_shelves if name in told_by(each))[0], piece)
            if by == "":
                self.assertEqual(name, entry)
            else:
                self.assertIn(by, ahead)
                self.assertIn(name, wanted_by(every[by]))
            ahead.append(piece)

    def assert_refused(self, refusal, values, given, shelves, entry):
        for asked in (taken, reasons):
            with self.assertRaises(refusal) as caught:
                asked(given, shelves, entry)
            self.assertIs(type(caught.exception), refusal)
            self.assertIsInstance(caught.exception, JoinError)
            for name, value in values.items():
                self.assertEqual(getattr(caught.exception, name), value)

    def assert_unmet(self, name, piece, given, shelves, entry):
        self.assert_refused(Unmet, {"name": name, "piece": piece}, given, shelves, entry)

    def assert_same_name(self, name, given, shelves, entry):
        self.assert_refused(SameName, {"name": name}, given, shelves, entry)


class TakenTest(ShelvesTest):
    def test_given_pieces_alone(self):
        self.assert_taken([made("b", "main", "x"), made("a", "x")], [], "main", ["a", "b"])
        self.assert_taken([made("b", "main", "x"), made("a", "x")], [[], []], "main", ["a", "b"])

    def test_all_given_are_taken_wanted_or_not(self):
        self.assert_taken([made("c"), made("b", "y"), made("a", "main")], [[made("d", "z")]], "main", ["a", "b", "c"])

    def test_from_a_shelf(self):
        shelf = [made("s1", "x"), made("s2", "y"), made("s3", "z")]
        self.assert_taken([made("a", "main", "y")], [shelf], "main", ["a", "s2"])
        self.assertEqual(reasons([made("a", "main", "y")], [shelf], "main"), [("s2", "y", "a")])

    def test_given_pieces_ahead_of_shelves(self):
        for sort in ("tell", "weak"):
            given = [made("a", "main", "x"), made("b", **{sort: "x"})]
            self.assert_taken(given, [[made("s", "x")]], "main", ["a", "b"])
        self.assert_taken([made("a", "main x", "x")], [[made("s", "x")]], "main", ["a"])
        self.assert_taken([made("a", "main", "x", weak="x")], [[made("s", "x")]], "main", ["a"])

    def test_given_pieces_ahead_for_pieces_from_shelves(self):
        given = [made("a", "main", "y"), made("b", weak="x")]
        self.assert_taken(given, [[made("s", "x"), made("t", "y", "x")]], "main", ["a", "b", "t"])

    def test_own_names_of_given_pieces_meet_nobody_else(self):
        given = [made("a", "main", "x"), made("b", own="x")]
        self.assert_taken(given, [[made("s", "x")]], "main", ["a", "b", "s"])

    def test_own_names_are_not_wanted(self):
        self.assert_taken([made("a", "main", "x", own="x")], [[made("s", "x")]], "main", ["a"])

    def test_own_names_on_shelves_meet_nothing(self):
        self.assert_taken([made("a", "main", "x")], [[made("s", own="x"), made("t", "x")]], "main", ["a", "t"])

    def test_soft_fills_take_nothing(self):
        self.assert_taken([made("a", "main", soft="x y")], [[made("s", "x")]], "main", ["a"])

    def test_order_of_the_shelves(self):
        given = [made("a", "main", "x")]
        self.assert_taken(given, [[made("t", "x")], [made("s", "x")]], "main", ["a", "t"])
        self.assert_taken(given, [[made("s", "x")], [made("t", "x")]], "main", ["a", "s"])
        self.assert_taken(given, [[], [made("r", "z")], [made("t", "x")], [made("s", "x")]], "main", ["a", "t"])

    def test_order_on_a_shelf(self):
        given = [made("a", "main", "x")]
        for names in itertools.permutations(["r", "s", "t"]):
            shelf = [made("q", "z")] + [made(name, "x") for name in names]
            self.assert_taken(given, [shelf], "main", sorted(["a", names[0]]))

    def test_weak_on_shelves_counts_as_strong(self):
        given = [made("a", "main", "x")]
        self.assert_taken(given, [[made("s", weak="x"), made("t", "x")]], "main", ["a", "s"])
        self.assert_taken(given, [[made("s", weak="x")], [made("t", "x")]], "main", ["a", "s"])

    def test_for_a_piece_that_was_taken(self):
        shelves = [[made("s3", "z"), made("s1", "x", "y")], [made("s2", "y", "z"), made("s4", "w")]]
        self.assert_taken([made("a", "main", "x")], shelves, "main", ["a", "s1", "s2", "s3"])

    def test_round_trips_among_shelves(self):
        shelves = [[made("s1", "x", "y"), made("s2", "y", "x main")]]
        self.assert_taken([made("a", "main", "x")], shelves, "main", ["a", "s1", "s2"])

    def test_names_that_a_taken_piece_tells_too(self):
        given = [made("a", "main", "y x")]
        shelves = [[made("s", "x"), made("t", "y", weak="x")]]
        self.assert_taken(given, shelves, "main", ["a", "s", "t"])
        given = [made("a", "main", "y"), made("b", "", "x")]
        self.assert_taken(given, shelves, "main", ["a", "b", "s", "t"])

    def test_names_that_the_wanting_piece_tells_too(self):
        given = [made("a", "main", "y")]
        for sort in ("tell", "weak"):
            wanting = made("t", **{"tell": "y", "want": "x", sort: "y x" if sort == "tell" else "x"})
            self.assert_taken(given, [[made("s", "x"), wanting]], "main", ["a", "s", "t"])
            self.assert_taken(given, [[made("s", "x")], [wanting]], "main", ["a", "s", "t"])
            self.assert_taken(given, [[wanting, made("s", "x")]], "main", ["a", "t"])

    def test_one_piece_for_several_names(self):
        given = [made("a", "main", "x y z"), made("b", "", "y w")]
        self.assert_taken(given, [[made("s", "w x y z")]], "main", ["a", "b", "s"])

    def test_the_entry_from_a_given_piece(self):
        for sort in ("tell", "weak"):
            self.assert_taken([made("a", **{sort: "main"})], [[made("s", "main")]], "main", ["a"])

    def test_the_entry_from_a_shelf(self):
        self.assert_taken([], [[made("s", "x"), made("t", "main", "x")]], "main", ["s", "t"])
        self.assertEqual(reasons([], [[made("s", "x"), made("t", "main", "x")]], "main"),
                         [("t", "main", ""), ("s", "x", "t")])
        self.assert_taken([made("a")], [[], [made("t", weak="main"), made("u", "main")]], "main", ["a", "t"])

    def test_the_entry_wanted_by_a_piece_too(self):
        self.assert_taken([made("a", "", "main")], [[made("s", "main")], [made("t", "main")]], "main", ["a", "s"])

    def test_sorted_by_names_as_texts(self):
        given = [made("p9", "main", "x y"), made("p10"), made("q"), made("p")]
        shelves = [[made("p_", "x"), made("b2", "y")]]
        self.assert_taken(given, shelves, "main", ["b2", "p", "p10", "p9", "p_", "q"])

    def test_a_long_chain(self):
        shelf = [made(f"s{k}", f"n{k}", f"n{k + 1}" if k < 98 else "") for k in reversed(range(99))]
        self.assert_taken([made("a", "main", "n0")], [[piece] for piece in shelf], "main",
                          sorted(["a"] + [piece[0] for piece in shelf]))

    def test_order_changes_nothing_where_no_name_is_told_twice_on_shelves(self):
        given = [made("a", "main", "x"), made("b", "v", "y")]
        on_shelves = [made("s", "x", "z"), made("t", "y", "main"), made("u", "z", "v"), made("w", "w")]
        for order in itertools.permutations(on_shelves):
            for cut in range(5):
                shelves = [list(order[:cut]), list(order[cut:])]
                self.assert_taken(list(reversed(given)), shelves, "main", ["a", "b", "s", "t", "u"])


class EveryJoinTest(ShelvesTest):
    def every_piece(self, name):
        """A few pieces, by which of three names they tell and which they want."""
        for tell in ("x", "y", "x y", "y z"):
            for want in ("", "x", "z", "x y"):
                yield made(name, tell, want)

    def test_small_joins_against_the_plain_way(self):
        refused = 0
        for first, second in itertools.product(self.every_piece("s"), self.every_piece("r")):
            for given in ([made("g", "z", "x")], [made("g", "", "y")], []):
                for last in ([], [made("q", "x z", "y")]):
                    shelves = [[first], [second] + last]
                    pieces, unmet = expected(given, shelves, "x")
                    if unmet:
                        refused += 1
                        wanting = sorted(piece[0] for piece in pieces if unmet[0] in wanted_by(piece))
                        by = "" if unmet[0] == "x" else wanting[0]
                        self.assert_unmet(unmet[0], by, given, shelves, "x")
                    else:
                        self.assert_taken(given, shelves, "x", [piece[0] for piece in pieces])
        self.assertTrue(100 < refused < 1000, refused)


class SameNameTest(ShelvesTest):
    def test_wherever_they_stand(self):
        one = made("p", "main")
        two = made("p", "x")
        other = made("a", "main")
        self.assert_same_name("p", [one, two], [], "main")
        self.assert_same_name("p", [one], [[two]], "main")
        self.assert_same_name("p", [other], [[one, two]], "main")
        self.assert_same_name("p", [other], [[one], [], [two]], "main")
        self.assert_same_name("p", [other], [[one], [one]], "main")
        self.assert_same_name("a", [other, copy.deepcopy(other)], [], "main")

    def test_of_pieces_that_are_not_taken(self):
        self.assert_same_name("s", [made("a", "main")], [[made("s", "x")], [made("s", "y")]], "main")

    def test_the_least_one(self):
        pieces = [made("c"), made("b"), made("d"), made("c"), made("a"), made("b"), made("c")]
        self.assert_same_name("b", [made("e", "main")], [pieces], "main")
        self.assert_same_name("b", pieces[:2], [pieces[2:4], pieces[4:]], "main")
        self.assert_same_name("p10", [made("p9"), made("p10")], [[made("p9"), made("p10")]], "main")

    def test_ahead_of_unmet(self):
        self.assert_same_name("s", [made("a", "", "none")], [[made("s"), made("s")]], "nowhere")
        self.assert_same_name("s", [], [[made("s"), made("s")]], "")


class UnmetTest(ShelvesTest):
    def test_the_entry(self):
        self.assert_unmet("main", "", [], [], "main")
        self.assert_unmet("main", "", [made("a", "x")], [[made("s", "y")]], "main")
        self.assert_unmet("main", "", [made("a", own="main")], [[made("s", own="main")]], "main")

    def test_texts_that_are_no_names_are_no_entry(self):
        for entry in ["", " ", "Main", "main ", "main\n", "a" * 17, "1"]:
            self.assert_unmet(entry, "", [made("a", "main")], [], entry)

    def test_the_entry_whoever_else_wants_it(self):
        self.assert_unmet("main", "", [made("a", "x", "main")], [], "main")
        self.assert_unmet("main", "", [made("a", "x", "y")], [[made("s", "y", "main")]], "main")

    def test_by_a_given_piece(self):
        self.assert_unmet("x", "a", [made("a", "main", "x")], [[made("s", "y")]], "main")

    def test_by_a_piece_from_a_shelf(self):
        self.assert_unmet("y", "s", [made("a", "main", "x")], [[made("s", "x", "y")]], "main")

    def test_the_least_name(self):
        self.assert_unmet("x", "b", [made("a", "main", "z y"), made("b", "", "z x")], [], "main")
        self.assert_unmet("b", "s", [made("a", "main", "x c")], [[made("s", "x", "b")]], "main")
        self.assert_unmet("alpha", "a", [made("a", "", "alpha")], [], "main")
        self.assert_unmet("main", "", [made("a", "", "zeta")], [], "main")
        self.assert_unmet("n10", "a", [made("a", "main", "n9 n10")], [], "main")

    def test_the_least_piece_that_wants_it(self):
        for order in itertools.permutations([made("c", "main", "x"), made("b", "", "w x"), made("d", "", "x")]):
            self.assert_unmet("x", "b", list(order), [[made("s", "w")]], "main")
        self.assert_unmet("x", "b", [made("c", "main", "x y")], [[made("b", "y", "x"), made("a", "z", "x")]], "main")

    def test_names_of_pieces_that_are_not_taken_may_be_unmet(self):
        self.assert_taken([made("a", "main")], [[made("s", "x", "nowhere")]], "main", ["a"])

    def test_met_by_another_shelf(self):
        self.assert_taken([made("a", "main", "x")], [[made("s", "x", "y")], [made("t", "y")]], "main", ["a", "s", "t"])

    def test_order_changes_no_refusal(self):
        given = [made("a", "main", "x"), made("b", "", "y q")]
        for order in itertools.permutations([made("s", "x", "p"), made("t", "y", "p r"), made("u", "z", "o")]):
            self.assert_unmet("p", "s", list(reversed(given)), [list(order[:1]), list(order[1:])], "main")


class ReasonsTest(ShelvesTest):
    def test_none_where_nothing_is_taken_from_shelves(self):
        self.assertEqual(reasons([made("a", "main")], [[made("s", "x")]], "main"), [])

    def test_by_a_given_piece_and_by_a_taken_one(self):
        shelves = [[made("s2", "y"), made("s1", "x", "y")]]
        self.assertEqual(reasons([made("a", "main", "x")], shelves, "main"), [("s1", "x", "a"), ("s2", "y", "s1")])

    def test_one_reason_of_several(self):
        given = [made("b", "main", "x y"), made("a", "", "y x")]
        told = reasons(given, [[made("s", "x y", "x")]], "main")
        self.assertEqual(len(told), 1)
        self.assertEqual(told[0][0], "s")
        self.assertIn(told[0][1:], [(name, by) for name in ("x", "y") for by in ("a", "b")])


class OwnCopiesTest(ShelvesTest):
    def join(self):
        return ([made("b", "main", "x", own="o"), made("a", "z", soft="q")],
                [[made("s", "x", "y"), made("u", "w")], [], [made("t", "y", "z", weak="v")]], "main")

    def test_nothing_handed_in_is_changed(self):
        for asked in (taken, reasons):
            given, shelves, entry = self.join()
            asked(given, shelves, entry)
            self.assertEqual((given, shelves, entry), self.join())

    def test_nothing_handed_in_is_changed_by_a_refusal(self):
        for asked in (taken, reasons):
            given, shelves, entry = self.join()
            with self.assertRaises(Unmet):
                asked(given, shelves, "nowhere")
            shelves.append([made("u")])
            with self.assertRaises(SameName):
                asked(given, shelves, entry)
            self.assertEqual((given, shelves[:-1], entry), self.join())

    def test_changing_what_was_told_changes_nothing_else(self):
        given, shelves, entry = self.join()
        before = taken(*self.join())
        told = taken(given, shelves, entry)
        for name, stretches, names in told:
            for kind, step, words, fills in stretches:
                words.append(99)
                fills.clear()
            stretches.pop()
            names.append(("more", "tell", 0, 0))
        told.clear()
        why = reasons(given, shelves, entry)
        why.append(("more", "more", ""))
        self.assertEqual((given, shelves, entry), self.join())
        self.assertEqual(taken(given, shelves, entry), before)
        self.assertEqual(reasons(given, shelves, entry), reasons(*self.join()))

    def test_changing_what_was_handed_in_changes_nothing_told(self):
        given, shelves, entry = self.join()
        told = taken(given, shelves, entry)
        for name, stretches, names in given + shelves[0] + shelves[2]:
            for kind, step, words, fills in stretches:
                words.append(99)
                fills.clear()
            stretches.pop()
            names.clear()
        given.clear()
        shelves.clear()
        self.assertEqual(told, taken(*self.join()))

    def test_copies_keep_each_part(self):
        piece = ("full", [("code", 4, [1, 2], [(0, "near", "main", -5, False), (1, "low", "q", 6, True)]),
                          ("data", 65536, [], [])],
                 [("main", "tell", 0, 0), ("w", "weak", 0, 1), ("o", "own", 0, 2), ("e", "own", 1, 0)])
        self.assertEqual(taken([piece], [], "main"), [piece])
        self.assertEqual(taken([], [[piece]], "main"), [piece])


if __name__ == "__main__":
    unittest.main()
