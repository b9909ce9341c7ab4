import copy
import unittest

from askladder.codes import code_of, part_code
from askladder.parts import all_parts
from askladder.reader import read
from askladder.sound import look
from tests.made import made
from tests.programs import RICH
from tests.second_code import second_codes

HEAD = ("ask q num to num\nask r nums to num\nkeeper k note num takes num gives num\n"
        "end x n : let s be x + n ; if s : let y be s ; tell y ; give y else let y be 7 ; give x end\n"
        "hears q x h n : %s\n")
HEAR = "let y be go h x n ; give y"


def sound(text):
    program = read(text)
    look(program)
    return program


def of_body(body, params=""):
    """The code of a function of the body; beside it stand g without params and p with three."""
    program = sound(HEAD % HEAR + "def f %sto num : %s\ndef g to num : give 4\n"
                    "def p a num b nums c hold k q to num : give a" % (params, body))
    return part_code(program, ("def", "f"))


class Rows(unittest.TestCase):
    maxDiff = None

    def test_a_give_alone(self):
        self.assertEqual(of_body("give 0"), (0, [("give", ("lit", 0))]))
        self.assertEqual(of_body("give a", "a num "), (1, [("give", ("slot", 0))]))
        self.assertEqual(of_body("give c", "a num b nums c num "), (3, [("give", ("slot", 2))]))

    def test_every_sort_of_piece(self):
        self.assertEqual(of_body(
            "let d be a ; let e be 12 ; let i be d + 1 ; let j be 0 - a ; let l be i * j ; let m be l < 999999999 ; "
            "let o be m = m ; let s be empty nums ; let t be empty holds k q ; let u be put a s ; let v be put c t ; "
            "let w be last u 3 ; let x be last v c ; let y be ask q e ; let z be ask r w ; let aa be go c y 8 ; "
            "tell aa ; tell 9 ; give z", "a num b nums c hold k q "), (19, [
                ("let", 3, ("slot", 0)),
                ("let", 4, ("lit", 12)),
                ("sum", 5, "+", ("slot", 3), ("lit", 1)),
                ("sum", 6, "-", ("lit", 0), ("slot", 0)),
                ("sum", 7, "*", ("slot", 5), ("slot", 6)),
                ("sum", 8, "<", ("slot", 7), ("lit", 999999999)),
                ("sum", 9, "=", ("slot", 8), ("slot", 8)),
                ("empty", 10, ("nums",)),
                ("empty", 11, ("holds", "k", "q")),
                ("put", 12, ("slot", 0), ("slot", 10)),
                ("put", 13, ("slot", 2), ("slot", 11)),
                ("last", 14, ("slot", 12), ("lit", 3)),
                ("last", 15, ("slot", 13), ("slot", 2)),
                ("ask", 16, "q", ("slot", 4)),
                ("ask", 17, "r", ("slot", 14)),
                ("go", 18, ("slot", 2), ("slot", 16), ("lit", 8)),
                ("tell", ("slot", 18)),
                ("tell", ("lit", 9)),
                ("give", ("slot", 17)),
            ]))

    def test_calls_and_keeps_without_args_and_with_several(self):
        self.assertEqual(of_body(
            "let d be call g ; let e be call p d b c ; let i be call p 5 b c ; let j be keep k 0 g ; "
            "let l be keep k e p 6 b c ; give l", "a num b nums c hold k q "), (8, [
                ("call", 3, "g", ()),
                ("call", 4, "p", (("slot", 3), ("slot", 1), ("slot", 2))),
                ("call", 5, "p", (("lit", 5), ("slot", 1), ("slot", 2))),
                ("keep", 6, "k", ("lit", 0), "g", ()),
                ("keep", 7, "k", ("slot", 4), "p", (("lit", 6), ("slot", 1), ("slot", 2))),
                ("give", ("slot", 7)),
            ]))

    def test_names_of_one_arm_bound_again_in_the_other(self):
        self.assertEqual(of_body(
            "if a : let x be 1 ; if x : let y be x ; give y else let y be a ; give y end else "
            "let y be 2 ; if 0 : let x be y ; give x else let x be a ; let z be x + y ; give z end end", "a num "), (8, [
                ("if", ("slot", 0), 7),
                ("let", 1, ("lit", 1)),
                ("if", ("slot", 1), 5),
                ("let", 2, ("slot", 1)),
                ("give", ("slot", 2)),
                ("let", 3, ("slot", 0)),
                ("give", ("slot", 3)),
                ("let", 4, ("lit", 2)),
                ("if", ("lit", 0), 11),
                ("let", 5, ("slot", 4)),
                ("give", ("slot", 5)),
                ("let", 6, ("slot", 0)),
                ("sum", 7, "+", ("slot", 6), ("slot", 4)),
                ("give", ("slot", 7)),
            ]))

    def test_what_a_case_binds_ahead_of_all_in_its_bodies(self):
        self.assertEqual(of_body(
            "case b none let x be 1 ; let y be x ; give y more x y : case y none let v be x ; give v more v w : "
            "let z be x + v ; give z end end", "b nums "), (9, [
                ("case", ("slot", 0), 1, 2, 4),
                ("let", 3, ("lit", 1)),
                ("let", 4, ("slot", 3)),
                ("give", ("slot", 4)),
                ("case", ("slot", 2), 5, 6, 7),
                ("let", 7, ("slot", 1)),
                ("give", ("slot", 7)),
                ("sum", 8, "+", ("slot", 1), ("slot", 5)),
                ("give", ("slot", 8)),
            ]))

    def test_a_case_in_the_first_body_of_a_case_and_of_an_if(self):
        self.assertEqual(of_body(
            "if 1 : case b none case b none give 0 more x y : give x end more x y : give x end else "
            "case b none give 2 more y x : give y end end", "b nums "), (7, [
                ("if", ("lit", 1), 6),
                ("case", ("slot", 0), 1, 2, 5),
                ("case", ("slot", 0), 3, 4, 4),
                ("give", ("lit", 0)),
                ("give", ("slot", 3)),
                ("give", ("slot", 1)),
                ("case", ("slot", 0), 5, 6, 8),
                ("give", ("lit", 2)),
                ("give", ("slot", 5)),
            ]))

    def test_of_an_end_x_and_n_are_ahead(self):
        program = sound((HEAD % HEAR).strip())
        self.assertEqual(part_code(program, ("end", "k")), (5, [
            ("sum", 2, "+", ("slot", 0), ("slot", 1)),
            ("if", ("slot", 2), 5),
            ("let", 3, ("slot", 2)),
            ("tell", ("slot", 3)),
            ("give", ("slot", 3)),
            ("let", 4, ("lit", 7)),
            ("give", ("slot", 0)),
        ]))

    def test_of_a_hear_x_and_h_and_n_are_ahead(self):
        program = sound(HEAD % (
            "let e be empty nums ; let c be ask r e ; case e none if n : let y be go h c x ; give y else give x end "
            "more y z : let i be keep k n p y z h ; if i : give i else let d be go h i 0 ; give d end end")
            + "def p a num b nums c hold k q to num : give a")
        self.assertEqual(part_code(program, ("hear", "k", "q")), (10, [
            ("empty", 3, ("nums",)),
            ("ask", 4, "r", ("slot", 3)),
            ("case", ("slot", 3), 5, 6, 7),
            ("if", ("slot", 2), 6),
            ("go", 7, ("slot", 1), ("slot", 4), ("slot", 0)),
            ("give", ("slot", 7)),
            ("give", ("slot", 0)),
            ("keep", 8, "k", ("slot", 2), "p", (("slot", 5), ("slot", 6), ("slot", 1))),
            ("if", ("slot", 8), 10),
            ("give", ("slot", 8)),
            ("go", 9, ("slot", 1), ("slot", 8), ("lit", 0)),
            ("give", ("slot", 9)),
        ]))

    def test_a_name_called_like_a_part_a_word_of_code_or_a_kind_of_its_own(self):
        self.assertEqual(of_body("let slot be a ; let lit be slot ; let f be lit ; give f", "a num "), (4, [
            ("let", 1, ("slot", 0)), ("let", 2, ("slot", 1)), ("let", 3, ("slot", 2)), ("give", ("slot", 3))]))


class Whole(unittest.TestCase):
    maxDiff = None

    def test_of_all_parts_and_of_these_alone(self):
        code = code_of(RICH)
        self.assertEqual(list(code), all_parts(RICH))
        for part in all_parts(RICH):
            self.assertEqual(code[part], part_code(RICH, part))
        self.assertEqual(code, second_codes(RICH))
        self.assertEqual(code_of(((), (), ())), {})

    def test_programs_made_by_chance(self):
        for seed in range(200):
            program = made(seed)
            self.assertEqual(code_of(program), second_codes(program), seed)

    def test_kinds_of_what_is_told(self):
        for part, (many, rows) in code_of(RICH).items():
            self.assertEqual((type(part), type(many), type(rows)), (tuple, int, list))
            for row in rows:
                self.assertIs(type(row), tuple)
                for thing in row[1:]:
                    self.assertIn(type(thing), (int, str, tuple))

    def test_long_and_deep_parts(self):
        body = ("give", "x")
        for k in range(2000):
            body = ("let", "y%d" % k, "x", body)
        for k in range(2000):
            body = ("if", "x", ("let", "z", k, ("give", "z")), body)
        program = ((), (), (("f", (("x", ("num",)),), ("num",), body),))
        many, rows = part_code(program, ("def", "f"))
        self.assertEqual((many, len(rows)), (4001, 8001))
        self.assertEqual(rows[:4], [("if", ("slot", 0), 3), ("let", 1, ("lit", 1999)), ("give", ("slot", 1)),
                                    ("if", ("slot", 0), 6)])
        self.assertEqual(rows[6000:6002], [("let", 2001, ("slot", 0)), ("let", 2002, ("slot", 0))])
        self.assertEqual(rows[-1], ("give", ("slot", 0)))


class Apart(unittest.TestCase):
    def test_what_was_told_changed_and_told_again(self):
        program = copy.deepcopy(RICH)
        first = copy.deepcopy(code_of(program))
        told = code_of(program)
        for many, rows in told.values():
            rows.append(("give", ("lit", 9)))
            rows[0] = None
        told.clear()
        part = part_code(program, ("def", "main"))
        part[1].clear()
        self.assertEqual(code_of(program), first)
        self.assertEqual(part_code(program, ("def", "main")), first[("def", "main")])
        self.assertEqual(program, RICH)

    def test_each_is_a_new_one(self):
        one, other = code_of(RICH), code_of(RICH)
        self.assertIsNot(one, other)
        for part in one:
            self.assertIsNot(one[part][1], other[part][1])


if __name__ == "__main__":
    unittest.main()
