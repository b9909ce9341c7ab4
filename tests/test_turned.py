import copy
import random
import unittest

from askladder.asking import asks_of, way_of
from askladder.codes import code_of
from askladder.desk import answer
from askladder.errors import AskError, NoTurn
from askladder.machine import by_rows
from askladder.often import hold_words, param_words
from askladder.parts import all_parts, body_of, pieces
from askladder.reader import read
from askladder.runs import ran
from askladder.sound import look
from askladder.stairs import by_stairs
from askladder.turned import exchanged, laid_in, let_go, passed_on
from askladder.words import is_name
from askladder.writer import shown
from tests.made import args_for, made, made_exchangeable, made_stacked
from tests.programs import NUM, NUMS, RICH
from tests.second_turned import fits, second_exchanged, second_laid_in, second_let_go, second_passed_on

SECOND = {laid_in: second_laid_in, let_go: second_let_go, exchanged: second_exchanged, passed_on: second_passed_on}
ASKS = "ask q num to num\nask r num to num\nask s num to num\n"
QUIET = "let y be go h x n ; give y"


def sound(text):
    program = read(text.strip())
    look(program)
    return program


def told_numbers(book):
    return [row for row in book if row[0] == "tell"]


def runnable(program):
    """The functions of numbers and rows of numbers, each with a few args."""
    for f, params, kind, _ in program[2]:
        if all(of in (NUM, NUMS) for of in (kind, *(of for _, of in params))):
            for a in (0, 3):
                yield f, [a if of == NUM else [a, 1][:a] for _, of in params]


class Checked(unittest.TestCase):
    maxDiff = None

    def refused(self, turn, program, *where):
        with self.assertRaises(NoTurn) as caught:
            turn(program, *where)
        self.assertIsInstance(caught.exception, AskError)
        self.assertIsNone(SECOND[turn](program, *where))

    def same_runs(self, turn, program, turned, bound=150):
        """Each run of the turned program tells what the document has it tell; how many runs ended."""
        ended = 0
        for f, args in runnable(program):
            end, steps, book = ran(program, f, args, bound)
            if end == ("dry",):
                continue
            ended += 1
            told = ran(turned, f, args, 2 * steps)
            self.assertEqual((told[0], told_numbers(told[2])), (end, told_numbers(book)), f)
            if turn in (laid_in, passed_on):
                self.assertLessEqual(told[1], steps)
            if turn == exchanged:
                self.assertEqual(told[1], steps)
            for tell in (by_rows, by_stairs):
                self.assertEqual(tell(turned, f, args, 2 * steps)[:3], told)
        return ended

    def turns(self, turn, text, *where_and_expected):
        """To the sign, but for new names, which the expected text has with an @ ahead; the turned program is told."""
        *where, expected = where_and_expected
        program = sound(text)
        turned = turn(program, *where)
        self.assertIsNone(fits(shown(program), expected.strip(), shown(turned)))
        self.assertIsNone(fits(shown(program), shown(SECOND[turn](program, *where)), shown(turned)))
        self.assertIs(look(turned), True)
        self.assertEqual(read(shown(turned)), turned)
        self.same_runs(turn, program, turned)
        return turned


class LaidIn(Checked):
    def test_args_in_the_place_of_params(self):
        rest = "def f c num d num to num : let e be c - d ; let g be e * c ; give g"
        self.turns(laid_in, "def main a num to num : tell a ; let x be call f a 5 ; let y be x + 1 ; give y\n" + rest,
                   ("def", "main"), 1,
                   "def main a num to num : tell a ; let @e be a - 5 ; let @g be @e * a ; let x be @g ; let y be x + 1 ; "
                   "give y\n" + rest)

    def test_a_param_given_a_number_given(self):
        self.turns(laid_in, "def main a num to num : let x be call f a ; give x\ndef f b num to num : give b",
                   ("def", "main"), 0,
                   "def main a num to num : let x be a ; give x\ndef f b num to num : give b")
        self.turns(laid_in, "def main a num to num : let x be call f ; give a\ndef f to num : give 7",
                   ("def", "main"), 0,
                   "def main a num to num : let x be 7 ; give a\ndef f to num : give 7")
        self.turns(laid_in, "def main a num to num : let x be call f 8 a ; give x\ndef f b num c num to num : give b",
                   ("def", "main"), 0,
                   "def main a num to num : let x be 8 ; give x\ndef f b num c num to num : give b")

    def test_args_that_are_called_like_other_params(self):
        self.turns(laid_in, "def main a num b num to num : let x be call f b a ; give x\n"
                   "def f a num b num to num : let c be a - b ; let d be b + c ; give d", ("def", "main"), 0,
                   "def main a num b num to num : let @c be b - a ; let @d be a + @c ; let x be @d ; give x\n"
                   "def f a num b num to num : let c be a - b ; let d be b + c ; give d")

    def test_each_give_in_turn_and_behind_it_a_copy(self):
        rest = ("def f b num r nums to num : if b : let c be b + 1 ; give c else case r none give 0 more c d : "
                "case d none give c more i j : give i end end end")
        self.turns(laid_in, "def main a num r nums to num : if a : let x be call f a r ; tell x ; let z be x + x ; "
                   "if z : give z else give a end else give 4 end\n" + rest, ("def", "main"), 1,
                   "def main a num r nums to num : if a : if a : let @c be a + 1 ; let x be @c ; tell x ; "
                   "let z be x + x ; if z : give z else give a end else case r none let x be 0 ; tell x ; "
                   "let z be x + x ; if z : give z else give a end more @c @d : case @d none let x be @c ; tell x ; "
                   "let z be x + x ; if z : give z else give a end more @i @j : let x be @i ; tell x ; "
                   "let z be x + x ; if z : give z else give a end end end end else give 4 end\n" + rest)

    def test_every_sort_of_piece(self):
        head = (ASKS + "keeper k note num takes num gives num\nend x n : give x\nhears q x h n : " + QUIET + "\n")
        rest = ("def f a num r nums h hold k q to num : let b be a ; let c be b < 3 ; let d be empty nums ; "
                "let e be empty holds k q ; let i be put b d ; let j be put h e ; let l be last i 4 ; let m be last j h ; "
                "let o be call g ; let p be call f c l h ; let s be ask s p ; let t be keep k s g ; "
                "let u be keep k 2 f t i h ; let v be go h u o ; tell v ; tell 9 ; give v\ndef g to num : give 3")
        self.turns(laid_in, head + "def main h hold k q rows nums to num : let x be call f 6 rows h ; let y be call g ; give x\n"
                   + rest, ("def", "main"), 0, head +
                   "def main h hold k q rows nums to num : let @b be 6 ; let @c be @b < 3 ; let @d be empty nums ; "
                   "let @e be empty holds k q ; let @i be put @b @d ; let @j be put h @e ; let @l be last @i 4 ; "
                   "let @m be last @j h ; let @o be call g ; let @p be call f @c @l h ; let @s be ask s @p ; "
                   "let @t be keep k @s g ; let @u be keep k 2 f @t @i h ; let @v be go h @u @o ; tell @v ; tell 9 ; "
                   "let x be @v ; let y be call g ; give x\n" + rest)

    def test_a_function_into_itself(self):
        self.turns(laid_in, "def f a num to num : if a : let b be a - 1 ; let c be call f b ; let d be c + a ; give d "
                   "else give 0 end", ("def", "f"), 2,
                   "def f a num to num : if a : let b be a - 1 ; if b : let @b be b - 1 ; let @c be call f @b ; "
                   "let @d be @c + b ; let c be @d ; let d be c + a ; give d else let c be 0 ; let d be c + a ; give d end "
                   "else give 0 end")
        self.turns(laid_in, "def f to num : let a be call f ; give a", ("def", "f"), 0,
                   "def f to num : let @a be call f ; let a be @a ; give a")

    def test_into_an_end_and_a_hear(self):
        head = ASKS + "keeper k note num takes num gives num\n"
        rest = "def f a num to num : let b be a + a ; give b\ndef main to num : let x be keep k 1 g ; give x\n" \
               "def g to num : let x be ask q 4 ; give x"
        old = ("end x n : let y be call f n ; tell y ; give x\n", "hears q x h n : let y be call f x ; let z be go h y 3 ; "
               "give z\n")
        turned = ("end x n : let @b be n + n ; let y be @b ; tell y ; give x\n",
                  "hears q x h n : let @b be x + x ; let y be @b ; let z be go h y 3 ; give z\n")
        self.turns(laid_in, head + "".join(old) + rest, ("end", "k"), 0, head + turned[0] + old[1] + rest)
        self.turns(laid_in, head + "".join(old) + rest, ("hear", "k", "q"), 0, head + old[0] + turned[1] + rest)

    def test_in_either_arm_all_else_stays(self):
        rest = "def f to num : let b be 1 ; give b"
        self.turns(laid_in, "def main r nums to num : case r none let x be call f ; give x more x y : let z be call f ; "
                   "give z end\n" + rest, ("def", "main"), 1,
                   "def main r nums to num : case r none let @b be 1 ; let x be @b ; give x more x y : let z be call f ; "
                   "give z end\n" + rest)
        self.turns(laid_in, "def main r nums to num : case r none let x be call f ; give x more x y : let z be call f ; "
                   "give z end\n" + rest, ("def", "main"), 3,
                   "def main r nums to num : case r none let x be call f ; give x more x y : let @b be 1 ; let z be @b ; "
                   "give z end\n" + rest)
        self.turns(laid_in, "def main a num to num : if a : let x be call f ; give x else let x be call f ; give x end\n"
                   + rest, ("def", "main"), 1, "def main a num to num : if a : let @b be 1 ; let x be @b ; give x else "
                   "let x be call f ; give x end\n" + rest)

    def test_where_it_can_not_be_done(self):
        for part in all_parts(RICH):
            for n, piece in enumerate(pieces(body_of(RICH, part))):
                if piece[0] != "call":
                    self.refused(laid_in, RICH, part, n)
        Places.nowhere(self, laid_in, sound("def main to num : let x be call main ; give x"))


class Places:
    def nowhere(self, turn, program):
        """Parts that aren't there; pieces that aren't there, of those that are."""
        for part in (("def", "zz"), ("end", "zz"), ("hear", "zz", "q"), ("hear", "k", "zz"), ("end", "main"), ("def", "k"),
                     ("hear", "q", "k")):
            if part not in all_parts(program):
                self.refused(turn, program, part, 0)
        for part in all_parts(program):
            many = len(pieces(body_of(program, part)))
            for n in (-1, -many, many, many + 1, 999999999):
                self.refused(turn, program, part, n)


class LetGo(Checked):
    HEAD = (ASKS + "keeper k note nums takes num gives nums\nend x n : let r be put x n ; tell x ; give r\n"
            "hears q x h n : let e be empty nums ; let y be go h x e ; give y\n"
            "keeper l note num takes num gives num\nend x n : give x\nhears r x h n : let y be go h x n ; give y\n")
    REST = "def f a num to num : let x be a + 1 ; give x\ndef g a num to num : let x be ask q a ; give x"

    def test_two_calls_and_a_new_function_at_the_end(self):
        self.turns(let_go, self.HEAD + "def main a num n nums to nums : tell a ; let y be keep k n f a ; let z be put 3 y ; "
                   "give z\n" + self.REST, ("def", "main"), 1, self.HEAD +
                   "def main a num n nums to nums : tell a ; let @a be call f a ; let y be call @f @a n ; "
                   "let z be put 3 y ; give z\n" + self.REST +
                   "\ndef @f x num n nums to nums : let r be put x n ; tell x ; give r")

    def test_a_note_that_is_a_number_and_no_args(self):
        self.turns(let_go, self.HEAD + "def main to num : let y be keep l 7 i ; give y\ndef i to num : give 1\n" + self.REST,
                   ("def", "main"), 0, self.HEAD +
                   "def main to num : let @a be call i ; let y be call @f @a 7 ; give y\ndef i to num : give 1\n" +
                   self.REST + "\ndef @f x num n num to num : give x")

    def test_of_an_end_itself_as_it_was(self):
        head = "keeper k note num takes num gives num\n"
        rest = "def f a num to num : give a\ndef main a num to num : let x be keep k a f 1 ; give x"
        old = "end x n : if n : let m be n - 1 ; let y be keep k m f x ; give y else give x end\n"
        self.turns(let_go, head + old + rest, ("end", "k"), 2, head +
                   "end x n : if n : let m be n - 1 ; let @a be call f x ; let y be call @f @a m ; give y else give x end\n"
                   + rest + "\ndef @f x num n num to num : if n : let m be n - 1 ; let y be keep k m f x ; give y "
                   "else give x end")

    def test_of_a_hear(self):
        self.turns(let_go, ASKS + "keeper k note num takes num gives num\nend x n : give n\n"
                   "hears q x h n : let a be keep k x f n ; let y be go h a n ; give y\ndef f a num to num : give a\n"
                   "def main to num : let x be keep k 1 g ; give x\ndef g to num : let x be ask q 3 ; tell x ; give x",
                   ("hear", "k", "q"), 0, ASKS + "keeper k note num takes num gives num\nend x n : give n\n"
                   "hears q x h n : let @a be call f n ; let a be call @f @a x ; let y be go h a n ; give y\n"
                   "def f a num to num : give a\ndef main to num : let x be keep k 1 g ; give x\n"
                   "def g to num : let x be ask q 3 ; tell x ; give x\ndef @f x num n num to num : give n")

    def test_asks_that_it_does_not_hear_and_that_its_own_parts_do(self):
        # g asks q, which l doesn't hear; what l's end asks is no matter.
        head = self.HEAD.replace("end x n : give x\nhears r", "end x n : let y be ask r x ; give y\nhears r")
        self.turns(let_go, head + "def main to num : let y be keep l 7 g 2 ; give y\n" + self.REST, ("def", "main"), 0, head +
                   "def main to num : let @a be call g 2 ; let y be call @f @a 7 ; give y\n" + self.REST +
                   "\ndef @f x num n num to num : let y be ask r x ; give y")

    def test_refused_where_an_ask_that_it_hears_may_come_out(self):
        for f in ("def g a num to num : let x be ask q a ; give x",
                  "def g a num to num : if a : give a else let y be call g a ; let x be ask q a ; give x end",
                  "def g a num to num : let x be call i a ; give x\ndef i a num to num : let x be ask q a ; give x",
                  "def g a num to num : let x be keep l 0 i a ; give x\ndef i a num to num : let x be ask q a ; give x"):
            program = sound(self.HEAD + "def main a num n nums to nums : let y be keep k n g a ; give y\n" + f)
            self.refused(let_go, program, ("def", "main"), 0)
        # Where k hears it within g it doesn't come out.
        program = sound(self.HEAD + "def main n nums to nums : let y be keep k n g n ; give y\n"
                        "def g n nums to num : let x be keep k n i ; case x none give 0 more a b : give a end\n"
                        "def i to num : let x be ask q 2 ; give x")
        self.assertGreater(self.same_runs(let_go, program, let_go(program, ("def", "main"), 0)), 0)
        self.refused(let_go, program, ("def", "g"), 0)

    def test_where_it_can_not_be_done(self):
        for part in all_parts(RICH):
            for n, piece in enumerate(pieces(body_of(RICH, part))):
                if piece[0] != "keep":
                    self.refused(let_go, RICH, part, n)
        program = sound("keeper k note num takes num gives num\nend x n : give x\n"
                        "def main to num : let x be keep k 1 f ; give x\ndef f to num : give 0")
        Places.nowhere(self, let_go, program)


class PassedOn(Checked):
    TEXT = (ASKS + "keeper l note num takes num gives num\nend x n : give x\n"
            "hears q x h n : let s be x + n ; let y be go h s s ; give y\n"
            "keeper k note %s takes %s gives %s\nend x n : %s\n"
            "hears r x h n : %s\n%shears s x h n : let y be go h 4 n ; give y\n"
            "def main a num to num : let x be keep l a f ; give x\n%s")
    NUMS = ("num", "num", "num", "tell n ; give x", "let y be go h 3 8 ; give y")
    FORM = "hears q x h n : let a be ask q x ; let y be go h a n ; give y\n"
    FUNCTIONS = ("def f to num : let x be keep k 5 g ; give x\n"
                 "def g to num : let x be ask q 1 ; let y be ask r x ; let z be ask q y ; let v be x + z ; give v")

    def text(self, form, functions=FUNCTIONS, keeper=NUMS):
        return self.TEXT % (*keeper, form, functions)

    def test_the_form(self):
        self.turns(passed_on, self.text(self.FORM), "k", "q", self.text(""))

    def test_the_form_by_other_names(self):
        self.turns(passed_on, self.text("hears q q k h : let hears be ask q q ; let b be go k hears h ; give b\n".replace(
            "hears be", "r be").replace("k hears h", "k r h")), "k", "q", self.text(""))

    def test_a_keeper_of_no_other_hear(self):
        rest = "def main to num : let x be keep k 1 f ; give x\ndef f to num : let x be ask q 4 ; give x"
        self.turns(passed_on, ASKS + "keeper k note num takes num gives num\nend x n : give x\n" + self.FORM + rest,
                   "k", "q", ASKS + "keeper k note num takes num gives num\nend x n : give x\n" + rest)

    def test_not_quite_the_form(self):
        for form in (
            "let a be ask r x ; let y be go h a n ; give y",
            "let a be ask q n ; let y be go h a n ; give y",
            "let a be ask q 5 ; let y be go h a n ; give y",
            "let a be ask q x ; let y be go h x n ; give y",
            "let a be ask q x ; let y be go h 5 n ; give y",
            "let a be ask q x ; let y be go h n n ; give y",
            "let a be ask q x ; let y be go h a x ; give y",
            "let a be ask q x ; let y be go h a a ; give y",
            "let a be ask q x ; let y be go h a 0 ; give y",
            "let a be ask q x ; let y be go h a n ; give a",
            "let a be ask q x ; let y be go h a n ; give n",
            "let a be ask q x ; let y be go h a n ; let z be y ; give z",
            "let a be ask q x ; let y be go h a n ; tell y ; give y",
            "tell x ; let a be ask q x ; let y be go h a n ; give y",
            "let a be ask q x ; tell a ; let y be go h a n ; give y",
            "let b be x ; let a be ask q b ; let y be go h a n ; give y",
            "let a be ask q x ; let b be a ; let y be go h b n ; give y",
            "let a be call g ; let y be go h a n ; give y",
            "let y be go h x n ; give y",
            "give x",
        ):
            program = sound(self.text("hears q x h n : %s\n" % form))
            self.refused(passed_on, program, "k", "q")

    def test_not_the_form_by_names_that_are_alike(self):
        # Another piece stands where the ask should, with the same names in the same places.
        for piece in ("put q x", "last q x"):
            kinds = ("num", "nums") if piece == "put q x" else ("nums", "num")
            text = ("ask q %s to nums\nkeeper k note %s takes num gives num\nend x n : give x\n"
                    "hears q x h q : let y be %s ; let z be go h y q ; give z\n" % (kinds[1], kinds[0], piece))
            self.refused(passed_on, sound(text), "k", "q")
        text = ("ask q num to num\nkeeper q note num takes num gives num\nend x n : give x\n"
                "hears q x h n : let y be keep q x f ; let z be go h y n ; give z\ndef f to num : give 1")
        self.refused(passed_on, sound(text), "q", "q")
        text = ("ask q num to num\nkeeper k note num takes num gives num\nend x n : give x\n"
                "hears q x h n : let y be call q x ; let z be go h y n ; give z\ndef q a num to num : give a")
        self.refused(passed_on, sound(text), "k", "q")

    def test_no_kind_of_its_hold_may_stand_anywhere(self):
        for kind in ("hold k q", "holds k q"):
            rest = "def f to num : give 1\ndef g to num : give 2\n"
            of_kind = "let x be call i ; give x" if kind == "hold k q" else "let e be empty holds k q ; give e"
            for keeper, functions in (
                (("num", "num", "num", "give x", "give x"), rest + "def i b %s to num : give 1" % kind),
                (("num", "num", "num", "give x", "give x"), rest + "def i to %s : %s" % (kind, of_kind)),
                ((kind, "num", "num", "give x", "give x"), rest),
                (("num", kind, "num", "give 1", "give 1"), rest),
                (("num", kind, kind, "give x", "let y be go h 3 n ; give y"), rest),
            ):
                self.refused(passed_on, sound(self.text(self.FORM, functions, keeper)), "k", "q")
        for body in ("let e be empty holds k q ; give 1", "if 0 : give 1 else let e be empty holds k q ; give 2 end"):
            keeper = ("num", "num", "num", "give x", "give x")
            self.refused(passed_on, sound(self.text(self.FORM, "def f to num : %s\ndef g to num : give 1" % body)), "k", "q")
            self.refused(passed_on, sound(self.text(self.FORM, keeper=(*keeper[:3], body, "give x"))), "k", "q")
            self.refused(passed_on, sound(self.text(self.FORM, keeper=(*keeper[:3], "give x", body))), "k", "q")

    def test_kinds_of_other_holds_are_no_matter(self):
        more = "\ndef i a hold k r b holds k s c hold l q to holds l q : let e be empty holds k r ; " \
               "let d be empty holds l q ; give d"
        self.turns(passed_on, self.text(self.FORM, self.FUNCTIONS + more), "k", "q", self.text("", self.FUNCTIONS + more))

    def test_the_keeper_or_the_ask_is_not_there(self):
        program = sound(self.text(self.FORM))
        for k, q in (("z", "q"), ("k", "z"), ("q", "k"), ("l", "r"), ("l", "s"), ("f", "q")):
            self.refused(passed_on, program, k, q)
        program = sound(self.text("", self.FUNCTIONS))
        self.refused(passed_on, program, "k", "q")

    def test_unheard_beneath(self):
        program = sound(self.text(self.FORM, self.FUNCTIONS + "\ndef i a num to num : let x be keep k a j ; give x\n"
                                  "def j to num : tell 5 ; let x be ask q 9 ; give x"))
        turned = passed_on(program, "k", "q")
        for tell in (ran, by_rows, by_stairs):
            self.assertEqual(tell(program, "i", [4], 600)[:3],
                             (("unheard", "q", 9), 4, [("keep", "k"), ("tell", 5), ("ask", "q", 0)]))
            self.assertEqual(tell(turned, "i", [4], 600)[:3], (("unheard", "q", 9), 3, [("keep", "k"), ("tell", 5)]))


class Exchanged(Checked):
    HEAD = (ASKS + "keeper k note %s takes num gives num\nend x n : %s\nhears q x h n : %s\n"
            "keeper j note num takes num gives num\nend x n : %s\nhears r x h n : %s\n%s"
            "keeper o note num takes num gives num\nend x n : tell n ; give x\n"
            "hears s x h n : let y be go h x n ; let z be go h y 2 ; let v be y + z ; give v\n"
            "def main a num b num to num : let x be keep o 1 u a b ; give x\n"
            "def g a num b num to num : let x be ask q a ; let y be ask r b ; let z be ask s y ; let v be ask q z ; "
            "tell v ; let w be x + v ; give w\n")
    PLAIN = ("num", "give x", "let s be x + n ; let y be go h s s ; give y", "give x",
             "if n : let y be go h n x ; give y else let y be go h 7 x ; give y end", "")
    OLD_U = "def u a num b num to num : let x be keep k a f b 5 ; let y be x + 1 ; give y\n"
    F = "def f c num d num to num : let z be keep j c g d c ; give z"

    def text(self, head=PLAIN, u=OLD_U, f=F):
        return self.HEAD % head + u + f

    def changed(self, **places):
        """The head with other things in these places: note, k_end, k_hear, j_end, j_hear, more."""
        names = ("note", "k_end", "k_hear", "j_end", "j_hear", "more")
        return tuple(places.get(name, old) for name, old in zip(names, self.PLAIN))

    def test_a_note_that_is_a_param(self):
        self.turns(exchanged, self.text(), ("def", "u"), 0, self.text(u=(
            "def u a num b num to num : let x be keep j b @f b 5 a ; let y be x + 1 ; give y\n"),
            f=self.F + "\ndef @f c num d num @n num to num : let z be keep k @n g d c ; give z"))

    def test_a_note_that_is_a_number(self):
        f = "def f c num d num to num : let z be keep j 9 g d c ; give z"
        self.turns(exchanged, self.text(f=f), ("def", "u"), 0, self.text(u=(
            "def u a num b num to num : let x be keep j 9 @f b 5 a ; let y be x + 1 ; give y\n"),
            f=f + "\ndef @f c num d num @n num to num : let z be keep k @n g d c ; give z"))

    def test_numbers_handed_in(self):
        f = "def f c num d num to num : let z be keep j d g 1 2 ; give z"
        u = "def u a num b num to num : let x be keep k 8 f b 5 ; tell x ; give a\n"
        self.turns(exchanged, self.text(u=u, f=f), ("def", "u"), 0, self.text(
            u="def u a num b num to num : let x be keep j 5 @f b 5 8 ; tell x ; give a\n",
            f=f + "\ndef @f c num d num @n num to num : let z be keep k @n g 1 2 ; give z"))

    def test_a_note_of_another_kind_and_no_params(self):
        f = "def f to num : let z be keep j 9 g 1 2 ; give z"
        u = "def u a num b num to num : let e be empty nums ; let m be put a e ; let x be keep k m f ; give x\n"
        head = self.changed(note="nums", k_hear="let m be put x n ; case n none let y be go h x m ; give y "
                            "more v w : let y be go h v w ; give y end")
        self.turns(exchanged, self.text(head, u, f), ("def", "u"), 2, self.text(
            head, "def u a num b num to num : let e be empty nums ; let m be put a e ; let x be keep j 9 @f m ; give x\n",
            f + "\ndef @f @n nums to num : let z be keep k @n g 1 2 ; give z"))

    def test_of_an_end_and_a_hear(self):
        for part in (("end", "o"), ("hear", "o", "s")):
            for old, new in (("keep k n f n x", "keep j n @f n x n"),):
                text = self.HEAD % self.PLAIN + self.OLD_U + self.F
                ends = {"end": ("end x n : tell n ; give x", "end x n : tell n ; let b be %s ; give b"),
                        "hear": ("hears s x h n : let y", "hears s x h n : let b be %s ; let y")}[part[0]]
                self.turns(exchanged, text.replace(ends[0], ends[1] % old), part, {"end": 1, "hear": 0}[part[0]],
                           text.replace(ends[0], ends[1] % new) +
                           "\ndef @f c num d num @n num to num : let z be keep k @n g d c ; give z")

    def test_all_that_their_hears_may_do(self):
        quiet = ("let a be x ; let b be a * n ; let c be empty nums ; let d be put b c ; let e be last d 2 ; "
                 "if n : case e none let y be go h 1 n ; give y more v w : let y be go h v x ; give y end "
                 "else let y be go h a b ; give y end")
        for place in ("k_hear", "j_hear"):
            program = sound(self.text(self.changed(**{place: quiet})))
            self.assertGreater(self.same_runs(exchanged, program, exchanged(program, ("def", "u"), 0)), 2)

    def test_keepers_without_hears(self):
        bare = "keeper %s note num takes num gives num\nend x n : give x\n"
        rest = "def u a num b num to num : let x be keep k a f b ; tell x ; give x\n" \
               "def f c num to num : let z be keep j 0 g c ; give z\ndef g a num to num : tell a ; give a"
        self.turns(exchanged, bare % "k" + bare % "j" + rest, ("def", "u"), 0, bare % "k" + bare % "j" +
                   rest.replace("keep k a f b", "keep j 0 @f b a") +
                   "\ndef @f c num @n num to num : let z be keep k @n g c ; give z")

    def refuses(self, *text, n=0):
        self.refused(exchanged, sound(self.text(*text)), ("def", "u"), n)

    def test_refused_for_what_the_function_is(self):
        for f in ("give c", "let z be call g c d ; give z", "let z be keep j c g d c ; give c",
                  "let z be keep j c g d c ; give 0", "let z be keep j c g d c ; tell z ; give z",
                  "let z be keep j c g d c ; let v be z ; give v", "tell c ; let z be keep j c g d c ; give z",
                  "let e be c + d ; let z be keep j e g d c ; give z",
                  "if c : let z be keep j c g d c ; give z else give 0 end", "let z be ask q c ; give z"):
            self.refuses(self.PLAIN, self.OLD_U, "def f c num d num to num : " + f)

    def test_refused_where_they_are_the_same_keeper(self):
        bare = "keeper k note num takes num gives num\nend x n : give x\n"
        program = sound(bare + "def u a num to num : let x be keep k a f ; give x\n"
                        "def f to num : let z be keep k 0 g ; give z\ndef g to num : give 1")
        self.refused(exchanged, program, ("def", "u"), 0)
        self.refuses(self.PLAIN, self.OLD_U, self.F.replace("keep j", "keep k"))

    def test_refused_where_they_hear_an_ask_both(self):
        self.refuses(self.changed(more="hears q x h n : let y be go h x n ; give y\n"))
        self.turns(exchanged, self.text(self.changed(more="hears s x h n : let y be go h x n ; give y\n")), ("def", "u"), 0,
                   self.text(self.changed(more="hears s x h n : let y be go h x n ; give y\n"),
                             "def u a num b num to num : let x be keep j b @f b 5 a ; let y be x + 1 ; give y\n",
                             self.F + "\ndef @f c num d num @n num to num : let z be keep k @n g d c ; give z"))

    def test_refused_for_an_end_that_does_not_give_its_x_at_once(self):
        for place in ("k_end", "j_end"):
            for end in ("give n", "give 0", "tell x ; give x", "let y be x ; give y", "if n : give x else give x end"):
                self.refuses(self.changed(**{place: end}))

    def test_refused_for_a_hear_that_is_not_last(self):
        for place in ("k_hear", "j_hear"):
            for hear in ("give x", "let y be go h x n ; let z be y ; give z", "let y be go h x n ; give x",
                         "let y be go h x n ; let z be go h y n ; give z",
                         "if x : let y be go h x n ; give y else give n end"):
                self.refuses(self.changed(**{place: hear}))

    def test_refused_for_a_hear_that_does_more(self):
        for place, k, q in (("k_hear", "k", "q"), ("j_hear", "j", "r")):
            for more in ("tell x ;", "let a be call g x n ;", "let a be ask s x ;", "let a be keep o x g x n ;"):
                head = self.changed(**{place: "%s let y be go h x n ; give y" % more})
                self.assertEqual(hold_words(sound(self.text(head)))[k, q], "last")
                self.refuses(head)
                self.refuses(self.changed(**{place: "if x : let y be go h x n ; give y else "
                                             "%s let y be go h x n ; give y end" % more}))
        # A function and a keeper that are called as the hold is.
        more = "\ndef h a num b num to num : give a"
        self.refuses(self.changed(k_hear="let a be call h x n ; let y be go h a n ; give y"), self.OLD_U, self.F + more)
        head = self.changed(k_hear="let a be keep h 0 g x n ; let y be go h a n ; give y",
                            more="keeper h note num takes num gives num\nend x n : give x\n")
        self.refuses(head)
        # A go with another hold, that of k's note.
        head = self.changed(note="holds o s", k_hear="case n none let y be go h x n ; give y more v w : "
                            "let a be go v x 0 ; let y be go h a w ; give y end")
        u = "def u a num b num to num : let e be empty holds o s ; let x be keep k e f b 5 ; give x\n"
        self.assertEqual(hold_words(sound(self.text(head, u)))["k", "q"], "last")
        self.refuses(head, u, n=1)

    def test_refused_for_another_hear_of_the_keepers(self):
        self.refuses(self.changed(more="hears s x h n : give x\n"))
        self.refuses(self.changed(more="hears s x h n : tell x ; let y be go h x n ; give y\n"))

    def test_where_it_can_not_be_done(self):
        program = sound(self.text())
        for part in all_parts(program):
            for n, piece in enumerate(pieces(body_of(program, part))):
                if (part, n) != (("def", "u"), 0):
                    self.refused(exchanged, program, part, n)
        Places.nowhere(self, exchanged, program)

    def test_turned_twice(self):
        # Exchanged back, it is as it was, but for the functions at the end.
        program = sound(self.text())
        once = exchanged(program, ("def", "u"), 0)
        twice = exchanged(once, ("def", "u"), 0)
        self.assertEqual(len(twice[2]), len(program[2]) + 2)
        self.assertEqual(body_of(twice, ("def", "u"))[2:4], ("k", "a"))
        self.same_runs(exchanged, program, twice)


class NewNames(Checked):
    def names_in(self, program):
        return set(shown(program).replace("\n", " ").split(" "))

    def test_names_of_all_sorts_alike_with_the_others(self):
        for part in all_parts(RICH):
            for n, piece in enumerate(pieces(body_of(RICH, part))):
                for turn in (laid_in, let_go, exchanged):
                    expected = SECOND[turn](RICH, part, n)
                    if expected is None:
                        self.refused(turn, RICH, part, n)
                    else:
                        turned = turn(RICH, part, n)
                        self.assertIsNone(fits(shown(RICH), shown(expected), shown(turned)))
                        look(turned)
                        self.same_runs(turn, RICH, turned)

    def test_where_all_short_names_are_taken(self):
        letters = "abcdefghijklmnopqrstuvwxyz"
        names = [name for name in [*letters, *(one + other for one in letters for other in letters[:9])] if is_name(name)]
        lets = "".join("let %s be 0 ; " % name for name in names if name not in "af")
        text = "def f a num to num : %slet zz be call f z ; let zzz be call f zz ; give zz" % lets
        program = read(text)
        turned = laid_in(program, ("def", "f"), len(pieces(body_of(program, ("def", "f")))) - 3)
        self.assertIsNone(fits(text, shown(second_laid_in(program, ("def", "f"), len(lets.split(";")) - 1)), shown(turned)))
        look(turned)

    def test_no_fixed_word_is_a_new_name(self):
        # So many new names are due that words like be, go, if and to would be among them.
        body = ("give", "a")
        for k in range(2000):
            body = ("let", "%s%s%s" % ("x" * (k % 5 + 1), "y" * (k // 5 % 20 + 1), "z" * (k // 100 + 1)), "a", body)
        program = ((), (), (("f", (("a", NUM),), NUM, body), ("main", (("b", NUM),), NUM, (
            "call", "c", "f", ("b",), ("give", "c")))))
        turned = laid_in(program, ("def", "main"), 0)
        self.assertIsNone(fits(shown(program), shown(second_laid_in_flat(program)), shown(turned)))


def second_laid_in_flat(program):
    """The program of the last test turned: a row of lets and a give."""
    (f, main) = program[2]
    names = [piece[1] for piece in pieces(f[3])[:-1]]
    body = ("let", "c", "b", ("give", "c"))
    for name in names[::-1]:
        body = ("let", "@" + name, "b", body)
    return ((), (), (f, (*main[:3], body)))


class ByChance(Checked):
    def places(self, program):
        """Each turn with each place."""
        for part in all_parts(program):
            for n in range(-1, len(pieces(body_of(program, part))) + 1):
                for turn in (laid_in, let_go, exchanged):
                    yield turn, part, n
        for keeper in program[1]:
            for ask in program[0]:
                yield passed_on, keeper[0], ask[0]

    def test_all_turns_everywhere(self):
        done, ended = {}, {}
        for seed in range(70):
            for make in (made, made_stacked, made_exchangeable):
                program = make(seed)
                kept = shown(program)
                for turn, *where in self.places(program):
                    expected = SECOND[turn](program, *where)
                    if expected is None:
                        with self.assertRaises(NoTurn):
                            turn(program, *where)
                        continue
                    turned = turn(program, *where)
                    self.assertIsNone(fits(kept, shown(expected), shown(turned)))
                    self.assertIs(look(turned), True)
                    self.assertEqual(read(shown(turned)), turned)
                    done[turn] = done.get(turn, 0) + 1
                    if done[turn] % 3 == 0:
                        ended[turn] = ended.get(turn, 0) + self.same_runs(turn, program, turned, 100)
                self.assertEqual(shown(program), kept)
        for turn in SECOND:
            self.assertGreater(done[turn], 30)
            self.assertGreater(ended[turn], 30)

    def test_turns_of_what_was_turned(self):
        deep = {}
        for seed in range(60):
            for make in (made_stacked, made_exchangeable):
                chance = random.Random(seed)
                program = turned = make(seed)
                args = args_for(program, seed)
                end, steps, book = ran(program, "main", args, 120)
                for depth in range(1, 6):
                    here = [where for where in self.places(turned) if SECOND[where[0]](turned, *where[1:]) is not None]
                    if not here:
                        break
                    turn, *where = chance.choice(here)
                    turned = turn(turned, *where)
                    look(turned)
                    deep[depth] = deep.get(depth, 0) + 1
                    if end != ("dry",):
                        told = ran(turned, "main", args, steps * 2 ** depth)
                        self.assertEqual((told[0], told_numbers(told[2])), (end, told_numbers(book)))
                        for tell in (by_rows, by_stairs):
                            self.assertEqual(tell(turned, "main", args, steps * 2 ** depth)[:3], told)
        self.assertGreater(deep[5], 50)


class Large(Checked):
    def test_parts_of_thousands_of_pieces(self):
        # Each time u is laid into itself its pieces are about doubled.
        program = sound(ASKS + "keeper k note num takes num gives num\nend x n : give x\n"
                        "hears q x h n : let y be go h x n ; give y\n"
                        "def main a num to num : let x be keep k 1 f a ; give x\n"
                        "def f a num to num : if a : let b be a - 1 ; let x be call f b ; let y be ask q x ; "
                        "let z be x + y ; give z else give 2 end\n"
                        "def u h hold k q a num to num : let b be call u h a ; if b : let c be go h b a ; give c "
                        "else tell b ; give b end")
        while len(pieces(body_of(program, ("def", "u")))) < 2000:
            program = laid_in(program, ("def", "u"), 0)
        for _ in range(6):
            found = pieces(body_of(program, ("def", "f")))
            program = laid_in(program, ("def", "f"), [piece[0] for piece in found].index("call"))
        self.assertIs(look(program), True)
        text = shown(program)
        self.assertEqual(shown(read(text)), text)
        self.assertEqual(asks_of(program)["def", "u"], [])
        self.assertEqual(way_of(program, ("def", "f"), "q")[0][0], ("def", "f"))
        self.assertEqual(param_words(program), {("u", 0): "many"})
        self.assertEqual(hold_words(program), {("k", "q"): "last"})
        self.assertEqual(len(code_of(program)["def", "u"][1]), len(pieces(body_of(program, ("def", "u")))))
        told = ran(program, "main", [4], 600)
        self.assertEqual(told[0], ("gave", 32))
        self.assertEqual(by_rows(program, "main", [4], 600)[:3], told)
        self.assertEqual(by_stairs(program, "main", [4], 600), told)
        self.assertEqual(answer(text, "run main 600 4"), "gave 32 steps %d" % told[1])
        self.refused(let_go, program, ("def", "main"), 0)


class Apart(Checked):
    def test_nothing_handed_in_is_changed_and_told_again_it_is_the_same(self):
        program = sound(Exchanged.HEAD % Exchanged.PLAIN + Exchanged.OLD_U + Exchanged.F)
        kept = copy.deepcopy(program)
        self.assertEqual(exchanged(program, ("def", "u"), 0), exchanged(program, ("def", "u"), 0))
        self.assertEqual(program, kept)
        program = sound(PassedOn.TEXT % (*PassedOn.NUMS, PassedOn.FORM, PassedOn.FUNCTIONS))
        kept = copy.deepcopy(program)
        self.assertEqual(passed_on(program, "k", "q"), passed_on(program, "k", "q"))
        self.assertEqual(program, kept)
        for turn in (laid_in, let_go):
            found = [(part, n) for part in all_parts(RICH) for n in range(len(pieces(body_of(RICH, part))))
                     if SECOND[turn](RICH, part, n) is not None]
            self.assertGreater(len(found), 0)
            for part, n in found:
                self.assertEqual(turn(RICH, part, n), turn(RICH, part, n))

    def test_kinds_of_what_is_told(self):
        def plain(thing):
            return type(thing) in (str, int) or type(thing) is tuple and all(map(plain, thing))

        for turn in (laid_in, let_go, exchanged):
            program = sound(Exchanged.HEAD % Exchanged.PLAIN + Exchanged.OLD_U + Exchanged.F +
                            "\ndef i to num : let x be call i ; let y be keep o 1 i ; give y")
            turned = turn(program, *{laid_in: (("def", "i"), 0), let_go: (("def", "i"), 1),
                                     exchanged: (("def", "u"), 0)}[turn])
            self.assertTrue(plain(turned))
            self.assertEqual(len(turned), 3)


if __name__ == "__main__":
    unittest.main()
