import unittest

from askladder.errors import AskError, NoBook, NoProgram, NoRow, NoText, NoTurn

REFUSALS = {NoText: ("row",), NoProgram: ("word", "name"), NoBook: ("at",), NoTurn: (), NoRow: ()}
VALUES = (0, 1, 7, 39999, 999999999, 10 ** 30, -1, "", "a", "twice", "a b\nc", "x" * 1000)


def sample(refusal, shift):
    """What to make it with: for each field a value of its own."""
    return [VALUES[(shift + 5 * k) % len(VALUES)] for k in range(len(REFUSALS[refusal]))]


class Refusals(unittest.TestCase):
    def test_fields_are_kept_as_made(self):
        for refusal, fields in REFUSALS.items():
            for shift in range(len(VALUES)):
                values = sample(refusal, shift)
                made = refusal(*values)
                self.assertEqual([getattr(made, field) for field in fields], values)
                self.assertEqual(vars(made), dict(zip(fields, values)))

    def test_word_and_name_are_not_exchanged(self):
        made = NoProgram("unknown", "abc")
        self.assertEqual((made.word, made.name), ("unknown", "abc"))

    def test_two_made_apart(self):
        for refusal, fields in REFUSALS.items():
            one, other = refusal(*sample(refusal, 1)), refusal(*sample(refusal, 2))
            self.assertIsNot(one, other)
            self.assertEqual([getattr(one, field) for field in fields], sample(refusal, 1))
            self.assertEqual([getattr(other, field) for field in fields], sample(refusal, 2))

    def test_each_is_an_ask_error_and_under_none_of_the_others(self):
        self.assertTrue(issubclass(AskError, ValueError))
        for refusal in REFUSALS:
            made = refusal(*sample(refusal, 0))
            self.assertIsInstance(made, AskError)
            self.assertIsInstance(made, ValueError)
            for other in REFUSALS:
                self.assertEqual(isinstance(made, other), other is refusal)

    def test_each_is_raised_and_caught_by_its_name(self):
        for refusal in REFUSALS:
            for caught in (refusal, AskError, ValueError):
                with self.assertRaises(caught):
                    raise refusal(*sample(refusal, 0))

    def test_fields_are_handed_in_by_place_and_all(self):
        for refusal, fields in REFUSALS.items():
            if fields:
                with self.assertRaises(TypeError):
                    refusal(*sample(refusal, 0)[1:])

    def test_ask_error_itself_is_none_of_them(self):
        self.assertFalse(isinstance(AskError("x"), tuple(REFUSALS)))


if __name__ == "__main__":
    unittest.main()
