import copy
import unittest

from askladder.writer import shown
from tests.texts import EMPTY_PROGRAM, FULL_PROGRAM, FULL_TEXT, NESTINGS, nested, of_one_body

BODY_TEXTS = {
    "let": "let x be a ; give z",
    "sum": "let x be 1 < a ; give z",
    "empty": "let x be empty nums ; give z",
    "empty holds": "let x be empty holds k q ; give z",
    "put": "let x be put a r ; give z",
    "last": "let x be last r 3 ; give z",
    "call": "let x be call f 1 a ; give z",
    "call without args": "let x be call f ; give z",
    "ask": "let x be ask q a ; give z",
    "keep": "let x be keep k 0 f a ; give z",
    "keep without args": "let x be keep k a f ; give z",
    "go": "let x be go h a b ; give z",
    "tell": "tell a ; give z",
    "if one": "if a : give z else give 1 end",
    "if other": "if 0 : give 1 else give z end",
    "case one": "case r none give z more x y : give x end",
    "case other": "case r none give x more x y : give z end",
}


class Writer(unittest.TestCase):
    def test_full_program_sign_by_sign(self):
        self.assertEqual(shown(FULL_PROGRAM), FULL_TEXT)

    def test_program_without_all(self):
        self.assertEqual(shown(EMPTY_PROGRAM), "")

    def test_each_sort_of_row_alone(self):
        num, nums, hold = ("num",), ("nums",), ("hold", "k", "q")
        self.assertEqual(shown(((("q", num, nums),), (), ())), "ask q num to nums")
        keeper = ("k", num, nums, hold, ("x", "n", ("give", "n")), ())
        self.assertEqual(shown(((), (keeper,), ())),
                         "keeper k note num takes nums gives hold k q\nend x n : give n")
        keeper = ("k", nums, hold, num, ("v", "w", ("give", 3)), (("q", "a", "b", "c", ("give", "b")),))
        self.assertEqual(shown(((), (keeper,), ())),
                         "keeper k note nums takes hold k q gives num\nend v w : give 3\nhears q a b c : give b")
        self.assertEqual(shown(((), (), (("f", (), hold, ("give", 0)),))), "def f to hold k q : give 0")
        function = ("f", (("a", hold), ("b", num)), ("holds", "l", "r"), ("give", "b"))
        self.assertEqual(shown(((), (), (function,))), "def f a hold k q b num to holds l r : give b")

    def test_each_piece_alone(self):
        self.assertEqual(sorted(BODY_TEXTS), sorted(NESTINGS))
        for sort, text in BODY_TEXTS.items():
            self.assertEqual(shown(of_one_body(nested([sort], 2))), "def f to num : " + text)

    def test_each_sign_of_a_sum(self):
        for sign in "+-*<=":
            body = ("sum", "x", sign, "a", 2, ("give", "x"))
            self.assertEqual(shown(of_one_body(body)), "def f to num : let x be a %s 2 ; give x" % sign)

    def test_numbers(self):
        for number in (0, 1, 9, 10, 999999999):
            self.assertEqual(shown(of_one_body(("give", number))), "def f to num : give %d" % number)

    def test_bodies_below_one_another(self):
        body = ("if", "a", ("if", "b", ("give", 1), ("give", 2)), ("case", "r", ("give", 3), "x", "y", ("give", 4)))
        self.assertEqual(shown(of_one_body(body)),
                         "def f to num : if a : if b : give 1 else give 2 end else "
                         "case r none give 3 more x y : give 4 end end")

    def test_deep_bodies(self):
        text = shown(of_one_body(nested(["tell"], 5000)))
        self.assertEqual(text, "def f to num : " + "tell a ; " * 4999 + "give z")
        text = shown(of_one_body(nested(["if one"], 5000)))
        self.assertEqual(text, "def f to num : " + "if a : " * 4999 + "give z" + " else give 1 end" * 4999)

    def test_nothing_handed_in_is_changed_and_the_same_is_told_again(self):
        program = copy.deepcopy(FULL_PROGRAM)
        first = shown(program)
        self.assertEqual(program, FULL_PROGRAM)
        shown(EMPTY_PROGRAM)
        self.assertEqual(shown(program), first)
        self.assertEqual(program, FULL_PROGRAM)


if __name__ == "__main__":
    unittest.main()
