import unittest

from joinload.errors import (
    JoinError, Lost, NoBase, NoPiece, NoRule, NoSense, NoWhole, SameName, TooFar, Twice, Unmet,
)

# Each refusal with the values that the interface names, in the order in which they are handed in.
REFUSALS = [
    (NoRule, {}),
    (NoPiece, {"row": 3}),
    (Twice, {"name": "print", "one": "left", "other": "right"}),
    (SameName, {"name": "left"}),
    (Unmet, {"name": "print", "piece": ""}),
    (TooFar, {"name": "print", "piece": "left", "stretch": 2, "at": 0}),
    (NoWhole, {"row": 1}),
    (NoBase, {"base": -(10 ** 60 - 1)}),
    (Lost, {"place": 4294967295}),
    (NoSense, {}),
]


class ErrorsTest(unittest.TestCase):
    def test_any_refusal_is_a_value_error(self):
        self.assertTrue(issubclass(JoinError, ValueError))

    def test_each_stands_under_join_error(self):
        for refusal, values in REFUSALS:
            with self.subTest(refusal=refusal.__name__):
                self.assertTrue(issubclass(refusal, JoinError))
                self.assertTrue(issubclass(refusal, ValueError))
                self.assertIsNot(refusal, JoinError)

    def test_none_stands_under_another(self):
        for refusal, values in REFUSALS:
            for another, others in REFUSALS:
                with self.subTest(refusal=refusal.__name__, another=another.__name__):
                    self.assertEqual(issubclass(refusal, another), refusal.__name__ == another.__name__)

    def test_each_has_its_values_when_it_is_made(self):
        for refusal, values in REFUSALS:
            with self.subTest(refusal=refusal.__name__):
                self.assertEqual(vars(refusal(*values.values())), values)

    def test_each_is_raised_with_its_values_and_taken_as_a_refusal(self):
        for refusal, values in REFUSALS:
            with self.subTest(refusal=refusal.__name__):
                with self.assertRaises(JoinError) as caught:
                    raise refusal(*values.values())
                self.assertIs(type(caught.exception), refusal)
                for name, value in values.items():
                    self.assertEqual(getattr(caught.exception, name), value)

    def test_values_of_one_are_not_those_of_the_next(self):
        first = Unmet("alpha", "left")
        second = Unmet("beta", "right")
        self.assertEqual((first.name, first.piece), ("alpha", "left"))
        self.assertEqual((second.name, second.piece), ("beta", "right"))

    def test_each_tells_something_in_words(self):
        for refusal, values in REFUSALS:
            with self.subTest(refusal=refusal.__name__):
                self.assertIsInstance(str(refusal(*values.values())), str)


if __name__ == "__main__":
    unittest.main()
