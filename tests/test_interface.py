"""The interface: each name is there, in its module, with its arguments."""
import importlib
import inspect
import unittest

FUNCTIONS = {
    "bits": ["wrapped(number)", "field(word, low, many)", "with_field(word, low, many, number)", "signed(number, many)",
             "turned(word, by)"],
    "rules": ["rule_of(title)"],
    "pieces": ["is_name(text)", "number_of(text, least, most)", "read_piece(text)", "shown_piece(piece)"],
    "names": ["tells(piece)", "wants(piece)", "names_of(pieces)", "aim(piece, names, fill)"],
    "shelves": ["taken(given, shelves, entry)", "reasons(given, shelves, entry)"],
    "ways": ["reached(pieces, names, root)"],
    "laying": ["laid(pieces, keys)", "size_of(pieces, keys)", "step_of(pieces, keys)"],
    "joining": ["map_of(given, shelves, entry)", "joined(given, shelves, entry)"],
    "wholes": ["shown_whole(whole)", "read_whole(text)"],
    "loading": ["loaded(whole, base)", "start_of(whole, base)"],
    "machine": ["Machine(memory, start, registers)"],
    "named": ["Named(given, shelves, entry, registers)"],
}
METHODS = {
    ("rules", "Rule"): ["fits(self, here, there)", "filled(self, word, here, there)", "read_back(self, word, here)",
                        "leans(self)"],
    ("machine", "Machine"): ["go_on(self)", "state(self)", "word_at(self, place)"],
    ("named", "Named"): ["go_on(self)", "state(self)", "value_at(self, piece, stretch, offset)"],
}
ERRORS = "NoRule NoPiece Twice SameName Unmet TooFar NoWhole NoBase Lost NoSense".split()


class InterfaceTest(unittest.TestCase):
    def module(self, name):
        return importlib.import_module(f"joinload.{name}")

    def assert_there(self, holder, row):
        name = row.partition("(")[0]
        self.assertEqual(name + str(inspect.signature(getattr(holder, name))), row)

    def test_functions_and_classes(self):
        for name, rows in FUNCTIONS.items():
            for row in rows:
                self.assert_there(self.module(name), row)

    def test_methods(self):
        for (name, title), rows in METHODS.items():
            for row in rows:
                self.assert_there(getattr(self.module(name), title), row)

    def test_rules(self):
        rules = self.module("rules")
        for title in ("whole", "high", "low", "near", "split"):
            self.assertIsInstance(rules.rule_of(title), rules.Rule)
            self.assertEqual(rules.rule_of(title).title, title)

    def test_errors(self):
        errors = self.module("errors")
        self.assertTrue(issubclass(errors.JoinError, ValueError))
        for name in ERRORS:
            for other in ["JoinError"] + ERRORS:
                under = issubclass(getattr(errors, name), getattr(errors, other))
                self.assertEqual(under, other in ("JoinError", name))


if __name__ == "__main__":
    unittest.main()
