import copy
import unittest

from askladder.parts import body_of, pieces
from askladder.reader import read
from askladder.sound import look
from askladder.walk import Walk
from tests.drawn import book_drawn, turns_drawn
from tests.made import args_for, made
from tests.programs import RICH
from tests.second_run import SecondRun

ASKS = "ask q num to num\nask r num to num\nask s num to nums\nask t num to num\n"
# A keeper whose end tells its note, and gives what it is given.
KEEPER = "keeper k note num takes num gives num\nend x n : tell n ; give x\n"
# A keeper that gives what it holds, as a row; the hear does nothing else.
HOLDER = ("keeper k note num takes num gives holds k q\n"
          "end x n : tell x ; tell n ; let e be empty holds k q ; give e\n"
          "hears q x h n : let e be empty holds k q ; let r be put h e ; give r\n")
# A keeper that puts each hold into its note, and at its end goes on with the first there.
NOTER = ("keeper k note holds k q takes num gives num\n"
         "end x n : tell x ; case n none give x more h rest : let y be go h 50 rest ; give y end\n"
         "hears q x h n : let m be last n h ; let y be go h x m ; give y\n")


def sound(text):
    program = read(text)
    look(program)
    return program


def run_on(walk, bound=600):
    while walk.steps() < bound and walk.turn():
        pass
    return walk


def told_by(walk):
    return (walk.ladder(), walk.steps(), walk.end(), walk.book())


class Checked(unittest.TestCase):
    maxDiff = None

    def same_as_second_run(self, program, f, args, bound=600):
        """Turn by turn; the walk behind the last turn."""
        walk = Walk(program, f, args)
        second = SecondRun(program, f, args)
        goes = True
        while goes and second.count < bound:
            self.assertEqual(told_by(walk), (second.ladder(), second.count, None, second.rows))
            goes = second.turn()
            self.assertIs(walk.turn(), goes)
        self.assertEqual(told_by(walk), (second.ladder(), second.count, second.over, second.rows))
        return walk

    def turns(self, text, f, args, *expected):
        """The ladders behind each turn, the first ahead of all; the last one is that of the end."""
        program = sound(text)
        self.same_as_second_run(program, f, args)
        walk = Walk(program, f, args)
        self.assertEqual(turns_drawn(walk, len(expected) - 1), list(expected))
        self.assertIsNotNone(walk.end())
        self.assertEqual(walk.steps(), len(expected) - 1)

    def ends(self, text, f, args, end, book):
        walk = self.same_as_second_run(sound(text), f, args)
        self.assertEqual(walk.end(), end)
        self.assertEqual(book_drawn(walk.book()), book)
        return walk

    def value_of(self, body, params="", args=()):
        """What the body gives, of a function without asks."""
        program = sound("def f %sto num : %s" % (params, body))
        return self.same_as_second_run(program, "f", args).end()[1]


class Plain(Checked):
    def test_names_and_arms(self):
        text = ("def main a num b nums to num : let c be a ; let d be c + 1 ; let e be empty nums ; let i be put a e ; "
                "let j be last i 9 ; tell d ; if a : case j none give 1 more x y : case y none give 0 more v w : "
                "tell v ; give x end end else case b none let z be 5 ; give z more u w : give u end end")
        self.turns(
            text, "main", [4, [7, 8]],
            "main@0 a=4 b=(7 8)",
            "main@1 a=4 b=(7 8) c=4",
            "main@2 a=4 b=(7 8) c=4 d=5",
            "main@3 a=4 b=(7 8) c=4 d=5 e=()",
            "main@4 a=4 b=(7 8) c=4 d=5 e=() i=(4)",
            "main@5 a=4 b=(7 8) c=4 d=5 e=() i=(4) j=(4 9)",
            "main@6 a=4 b=(7 8) c=4 d=5 e=() i=(4) j=(4 9) -- tell 5",
            "main@7 a=4 b=(7 8) c=4 d=5 e=() i=(4) j=(4 9)",
            "main@9 a=4 b=(7 8) c=4 d=5 e=() i=(4) j=(4 9) x=4 y=(9)",
            "main@11 a=4 b=(7 8) c=4 d=5 e=() i=(4) j=(4 9) x=4 y=(9) v=9 w=()",
            "main@12 a=4 b=(7 8) c=4 d=5 e=() i=(4) j=(4 9) x=4 y=(9) v=9 w=() -- tell 9",
            "('gave', 4)",
        )
        self.turns(
            text, "main", [0, []],
            "main@0 a=0 b=()",
            "main@1 a=0 b=() c=0",
            "main@2 a=0 b=() c=0 d=1",
            "main@3 a=0 b=() c=0 d=1 e=()",
            "main@4 a=0 b=() c=0 d=1 e=() i=(0)",
            "main@5 a=0 b=() c=0 d=1 e=() i=(0) j=(0 9)",
            "main@6 a=0 b=() c=0 d=1 e=() i=(0) j=(0 9) -- tell 1",
            "main@13 a=0 b=() c=0 d=1 e=() i=(0) j=(0 9)",
            "main@14 a=0 b=() c=0 d=1 e=() i=(0) j=(0 9)",
            "main@15 a=0 b=() c=0 d=1 e=() i=(0) j=(0 9) z=5",
            "('gave', 5)",
        )

    def test_a_give_alone(self):
        self.turns("def f to num : give 999999999", "f", [], "f@0", "('gave', 999999999)")
        self.turns("def f a nums to nums : give a", "f", [[1, 2]], "f@0 a=(1 2)", "('gave', (1, 2))")
        self.turns("def f to nums : let e be empty nums ; give e", "f", (), "f@0", "f@1 e=()", "('gave', ())")

    def test_sums(self):
        top = 999999999
        for a, sign, b, expected in (
            (0, "+", 0, 0), (1, "+", 2, 3), (top, "+", 0, top), (top, "+", 1, 0), (top, "+", top, 999999998),
            (5, "-", 3, 2), (5, "-", 5, 0), (3, "-", 5, 999999998), (0, "-", 1, top), (0, "-", top, 1),
            (top, "-", top, 0), (3, "*", 5, 15), (top, "*", 0, 0), (top, "*", 1, top), (top, "*", 2, 999999998),
            (top, "*", top, 1), (31623, "*", 31623, 14129), (500000000, "*", 2, 0), (1000, "*", 1000000, 0),
            (1, "<", 2, 1), (2, "<", 1, 0), (2, "<", 2, 0), (0, "<", top, 1), (top, "<", 0, 0),
            (1, "=", 1, 1), (1, "=", 2, 0), (2, "=", 1, 0), (top, "=", top, 1), (0, "=", 0, 1),
        ):
            told = self.value_of("let x be a %s b ; give x" % sign, "a num b num ", [a, b])
            self.assertEqual(told, expected, (a, sign, b))
            self.assertIs(type(told), int)
            self.assertEqual(self.value_of("let x be %d %s %d ; give x" % (a, sign, b)), expected)

    def test_if_takes_its_first_body_but_for_0(self):
        for a, expected in ((0, 2), (1, 1), (2, 1), (999999999, 1)):
            self.assertEqual(self.value_of("if a : give 1 else give 2 end", "a num ", [a]), expected)
            self.assertEqual(self.value_of("if %d : give 1 else give 2 end" % a), expected)

    def test_put_ahead_and_last_behind(self):
        program = sound("def f a nums to nums : let b be put 1 a ; let c be last b 2 ; let d be put 3 c ; give d")
        self.assertEqual(run_on(Walk(program, "f", [(8, 9)])).end(), ("gave", (3, 1, 8, 9, 2)))
        program = sound("def f a nums to nums : case a none give a more x y : let z be last y x ; give z end")
        self.assertEqual(run_on(Walk(program, "f", [[8, 9, 7]])).end(), ("gave", (9, 7, 8)))
        self.assertEqual(run_on(Walk(program, "f", [[8]])).end(), ("gave", (8,)))
        self.assertEqual(run_on(Walk(program, "f", [[]])).end(), ("gave", ()))

    def test_what_is_told(self):
        self.ends("def f a num to num : tell a ; tell 0 ; tell 999999999 ; tell a ; give 1", "f", [3], ("gave", 1),
                  "tell 3; tell 0; tell 999999999; tell 3")

    def test_calls(self):
        self.turns(
            "def main a num to num : let x be call f a 2 ; let y be call f x x ; give y\n"
            "def f a num b num to num : let x be call g b ; let c be a - x ; give c\ndef g x num to num : give x",
            "main", [5],
            "main@0 a=5",
            "main@0 a=5 | f@0 a=5 b=2",
            "main@0 a=5 | f@0 a=5 b=2 | g@0 x=2",
            "main@0 a=5 | f@1 a=5 b=2 x=2",
            "main@0 a=5 | f@2 a=5 b=2 x=2 c=3",
            "main@1 a=5 x=3",
            "main@1 a=5 x=3 | f@0 a=3 b=3",
            "main@1 a=5 x=3 | f@0 a=3 b=3 | g@0 x=3",
            "main@1 a=5 x=3 | f@1 a=3 b=3 x=3",
            "main@1 a=5 x=3 | f@2 a=3 b=3 x=3 c=0",
            "main@2 a=5 x=3 y=0",
            "('gave', 0)",
        )

    def test_a_function_that_calls_itself(self):
        text = ("def f a num b num to num : if a : let c be a - 1 ; let d be call f c a ; let e be d + b ; give e "
                "else give b end")
        self.assertEqual(self.same_as_second_run(sound(text), "f", [3, 100]).end(), ("gave", 106))
        walk = Walk(sound("def f to num : let x be call f ; give x"), "f", [])
        for k in range(1900):
            self.assertIs(walk.turn(), True)
        self.assertEqual(walk.ladder(), [("part", ("def", "f"), 0, {})] * 1901)


class Keeps(Checked):
    def test_keeps_within_keeps(self):
        self.turns(
            "keeper k note num takes num gives nums\nend x n : let e be empty nums ; let r be put x e ; "
            "let s be put n r ; give s\nkeeper l note nums takes nums gives num\n"
            "end x n : case x none give 0 more y z : give y end\n"
            "def main a num to num : let e be empty nums ; let x be keep l e f a ; tell x ; give x\n"
            "def f a num to nums : let y be keep k 7 g a ; give y\ndef g a num to num : give a",
            "main", [3],
            "main@0 a=3",
            "main@1 a=3 e=()",
            "main@1 a=3 e=() | [l ()] | f@0 a=3 -- keep l",
            "main@1 a=3 e=() | [l ()] | f@0 a=3 | [k 7] | g@0 a=3 -- keep k",
            "main@1 a=3 e=() | [l ()] | f@0 a=3 | end k@0 x=3 n=7 -- ended k",
            "main@1 a=3 e=() | [l ()] | f@0 a=3 | end k@1 x=3 n=7 e=()",
            "main@1 a=3 e=() | [l ()] | f@0 a=3 | end k@2 x=3 n=7 e=() r=(3)",
            "main@1 a=3 e=() | [l ()] | f@0 a=3 | end k@3 x=3 n=7 e=() r=(3) s=(7 3)",
            "main@1 a=3 e=() | [l ()] | f@1 a=3 y=(7 3)",
            "main@1 a=3 e=() | end l@0 x=(7 3) n=() -- ended l",
            "main@1 a=3 e=() | end l@2 x=(7 3) n=() y=7 z=(3)",
            "main@2 a=3 e=() x=7",
            "main@3 a=3 e=() x=7 -- tell 7",
            "('gave', 7)",
        )

    def test_never_gone_on_with(self):
        self.turns(
            ASKS + KEEPER + "hears q x h n : let s be x * 2 ; give s\n"
            "def main a num to num : let x be keep k 9 f a ; let y be x + 1 ; give y\n"
            "def f a num to num : let x be ask q a ; tell 1 ; give x",
            "main", [4],
            "main@0 a=4",
            "main@0 a=4 | [k 9] | f@0 a=4 -- keep k",
            "main@0 a=4 | k.q@0 x=4 h=#0 n=9 -- ask q 0",
            "main@0 a=4 | k.q@1 x=4 h=#0 n=9 s=8",
            "main@1 a=4 x=8",
            "main@2 a=4 x=8 y=9",
            "('gave', 9)",
        )

    def test_gone_on_with_once_with_another_note_each_time(self):
        self.turns(
            ASKS + KEEPER + "hears q x h n : let m be n + 1 ; let y be go h x m ; let z be y + n ; give z\n"
            "def main a num to num : let x be keep k 10 f a ; give x\n"
            "def f a num to num : let x be ask q a ; let y be ask q x ; let z be x + y ; give z",
            "main", [4],
            "main@0 a=4",
            "main@0 a=4 | [k 10] | f@0 a=4 -- keep k",
            "main@0 a=4 | k.q@0 x=4 h=#0 n=10 -- ask q 0",
            "main@0 a=4 | k.q@1 x=4 h=#0 n=10 m=11",
            "main@0 a=4 | k.q@1 x=4 h=#0 n=10 m=11 | [k 11] | f@1 a=4 x=4 -- go 0",
            "main@0 a=4 | k.q@1 x=4 h=#0 n=10 m=11 | k.q@0 x=4 h=#1 n=11 -- ask q 0",
            "main@0 a=4 | k.q@1 x=4 h=#0 n=10 m=11 | k.q@1 x=4 h=#1 n=11 m=12",
            "main@0 a=4 | k.q@1 x=4 h=#0 n=10 m=11 | k.q@1 x=4 h=#1 n=11 m=12 | [k 12] | f@2 a=4 x=4 y=4 -- go 1",
            "main@0 a=4 | k.q@1 x=4 h=#0 n=10 m=11 | k.q@1 x=4 h=#1 n=11 m=12 | [k 12] | f@3 a=4 x=4 y=4 z=8",
            "main@0 a=4 | k.q@1 x=4 h=#0 n=10 m=11 | k.q@1 x=4 h=#1 n=11 m=12 | end k@0 x=8 n=12 -- ended k",
            "main@0 a=4 | k.q@1 x=4 h=#0 n=10 m=11 | k.q@1 x=4 h=#1 n=11 m=12 | end k@1 x=8 n=12 -- tell 12",
            "main@0 a=4 | k.q@1 x=4 h=#0 n=10 m=11 | k.q@2 x=4 h=#1 n=11 m=12 y=8",
            "main@0 a=4 | k.q@1 x=4 h=#0 n=10 m=11 | k.q@3 x=4 h=#1 n=11 m=12 y=8 z=19",
            "main@0 a=4 | k.q@2 x=4 h=#0 n=10 m=11 y=19",
            "main@0 a=4 | k.q@3 x=4 h=#0 n=10 m=11 y=19 z=29",
            "main@1 a=4 x=29",
            "('gave', 29)",
        )

    def test_gone_on_with_thrice_each_time_as_it_was_cut(self):
        self.turns(
            ASKS + KEEPER + "hears q x h n : let y be go h x 1 ; let z be go h y 2 ; let v be go h z n ; give v\n"
            "def main a num to num : let x be keep k 0 f a ; give x\n"
            "def f a num to num : let b be call g a ; let c be a + b ; give c\n"
            "def g a num to num : let d be 7 ; let x be ask q a ; give x",
            "main", [4],
            "main@0 a=4",
            "main@0 a=4 | [k 0] | f@0 a=4 -- keep k",
            "main@0 a=4 | [k 0] | f@0 a=4 | g@0 a=4",
            "main@0 a=4 | [k 0] | f@0 a=4 | g@1 a=4 d=7",
            "main@0 a=4 | k.q@0 x=4 h=#0 n=0 -- ask q 0",
            "main@0 a=4 | k.q@0 x=4 h=#0 n=0 | [k 1] | f@0 a=4 | g@2 a=4 d=7 x=4 -- go 0",
            "main@0 a=4 | k.q@0 x=4 h=#0 n=0 | [k 1] | f@1 a=4 b=4",
            "main@0 a=4 | k.q@0 x=4 h=#0 n=0 | [k 1] | f@2 a=4 b=4 c=8",
            "main@0 a=4 | k.q@0 x=4 h=#0 n=0 | end k@0 x=8 n=1 -- ended k",
            "main@0 a=4 | k.q@0 x=4 h=#0 n=0 | end k@1 x=8 n=1 -- tell 1",
            "main@0 a=4 | k.q@1 x=4 h=#0 n=0 y=8",
            "main@0 a=4 | k.q@1 x=4 h=#0 n=0 y=8 | [k 2] | f@0 a=4 | g@2 a=4 d=7 x=8 -- go 0",
            "main@0 a=4 | k.q@1 x=4 h=#0 n=0 y=8 | [k 2] | f@1 a=4 b=8",
            "main@0 a=4 | k.q@1 x=4 h=#0 n=0 y=8 | [k 2] | f@2 a=4 b=8 c=12",
            "main@0 a=4 | k.q@1 x=4 h=#0 n=0 y=8 | end k@0 x=12 n=2 -- ended k",
            "main@0 a=4 | k.q@1 x=4 h=#0 n=0 y=8 | end k@1 x=12 n=2 -- tell 2",
            "main@0 a=4 | k.q@2 x=4 h=#0 n=0 y=8 z=12",
            "main@0 a=4 | k.q@2 x=4 h=#0 n=0 y=8 z=12 | [k 0] | f@0 a=4 | g@2 a=4 d=7 x=12 -- go 0",
            "main@0 a=4 | k.q@2 x=4 h=#0 n=0 y=8 z=12 | [k 0] | f@1 a=4 b=12",
            "main@0 a=4 | k.q@2 x=4 h=#0 n=0 y=8 z=12 | [k 0] | f@2 a=4 b=12 c=16",
            "main@0 a=4 | k.q@2 x=4 h=#0 n=0 y=8 z=12 | end k@0 x=16 n=0 -- ended k",
            "main@0 a=4 | k.q@2 x=4 h=#0 n=0 y=8 z=12 | end k@1 x=16 n=0 -- tell 0",
            "main@0 a=4 | k.q@3 x=4 h=#0 n=0 y=8 z=12 v=16",
            "main@1 a=4 x=16",
            "('gave', 16)",
        )

    def test_the_nearest_hears_beneath_others_that_do_not(self):
        own = "main@0 | [k 1] | f@0 | k.q@0 x=5 h=#1 n=2"
        second = own + " | k.q@0 x=1 h=#2 n=2"
        self.turns(
            ASKS + KEEPER + "hears q x h n : let y be go h 1 n ; give y\n"
            "keeper l note num takes num gives num\nend x n : give x\n"
            "hears r x h n : let y be ask q x ; let z be go h y n ; give z\n"
            "keeper m note num takes num gives num\nend x n : give x\n"
            "def main to num : let x be keep k 1 f ; give x\ndef f to num : let x be keep k 2 g ; give x\n"
            "def g to num : let x be keep l 3 i ; give x\ndef i to num : let x be keep m 4 j ; give x\n"
            "def j to num : let x be ask r 5 ; let y be ask q x ; give y",
            "main", [],
            "main@0",
            "main@0 | [k 1] | f@0 -- keep k",
            "main@0 | [k 1] | f@0 | [k 2] | g@0 -- keep k",
            "main@0 | [k 1] | f@0 | [k 2] | g@0 | [l 3] | i@0 -- keep l",
            "main@0 | [k 1] | f@0 | [k 2] | g@0 | [l 3] | i@0 | [m 4] | j@0 -- keep m",
            "main@0 | [k 1] | f@0 | [k 2] | g@0 | l.r@0 x=5 h=#0 n=3 -- ask r 2",
            "main@0 | [k 1] | f@0 | k.q@0 x=5 h=#1 n=2 -- ask q 1",
            own + " | [k 2] | g@0 | l.r@1 x=5 h=#0 n=3 y=1 -- go 1",
            own + " | [k 2] | g@0 | l.r@1 x=5 h=#0 n=3 y=1 | [l 3] | i@0 | [m 4] | j@1 x=1 -- go 0",
            second + " -- ask q 1",
            second + " | [k 2] | g@0 | l.r@1 x=5 h=#0 n=3 y=1 | [l 3] | i@0 | [m 4] | j@2 x=1 y=1 -- go 2",
            second + " | [k 2] | g@0 | l.r@1 x=5 h=#0 n=3 y=1 | [l 3] | i@0 | end m@0 x=1 n=4 -- ended m",
            second + " | [k 2] | g@0 | l.r@1 x=5 h=#0 n=3 y=1 | [l 3] | i@1 x=1",
            second + " | [k 2] | g@0 | l.r@1 x=5 h=#0 n=3 y=1 | end l@0 x=1 n=3 -- ended l",
            second + " | [k 2] | g@0 | l.r@2 x=5 h=#0 n=3 y=1 z=1",
            second + " | [k 2] | g@1 x=1",
            second + " | end k@0 x=1 n=2 -- ended k",
            second + " | end k@1 x=1 n=2 -- tell 2",
            own + " | k.q@1 x=1 h=#2 n=2 y=1",
            "main@0 | [k 1] | f@0 | k.q@1 x=5 h=#1 n=2 y=1",
            "main@0 | [k 1] | f@1 x=1",
            "main@0 | end k@0 x=1 n=1 -- ended k",
            "main@0 | end k@1 x=1 n=1 -- tell 1",
            "main@1 x=1",
            "('gave', 1)",
        )

    def test_a_hear_is_no_longer_under_its_keeper(self):
        self.ends(ASKS + KEEPER + "hears q x h n : let y be ask q 8 ; give y\n"
                  "def main to num : let x be keep k 1 f ; give x\ndef f to num : let x be ask q 2 ; give x",
                  "main", [], ("unheard", "q", 8), "keep k; ask q 0")

    def test_a_keeper_of_several_hears(self):
        self.ends(ASKS + KEEPER + "hears r x h n : tell 100 ; let y be go h 1 n ; give y\n"
                  "hears q x h n : tell 200 ; let y be go h 2 n ; give y\n"
                  "def main to num : let x be keep k 1 f ; give x\n"
                  "def f to num : let x be ask q 2 ; let y be ask r 3 ; tell x ; tell y ; give 0",
                  "main", [], ("gave", 0),
                  "keep k; ask q 0; tell 200; go 0; ask r 0; tell 100; go 1; tell 2; tell 1; ended k; tell 1")

    def test_rows_asked_with_and_answered(self):
        walk = self.ends(
            "ask q nums to nums\nkeeper k note nums takes nums gives nums\nend x n : give x\n"
            "hears q x h n : let a be last x 3 ; let b be put 4 n ; let y be go h a b ; give y\n"
            "def main a nums to nums : let x be keep k a f a ; give x\n"
            "def f a nums to nums : let x be ask q a ; let y be ask q x ; give y",
            "main", [[1, 2]], ("gave", (1, 2, 3, 3)), "keep k; ask q 0; go 0; ask q 0; go 1; ended k")
        self.assertEqual(walk.ladder(), [])
        walk = Walk(read("ask q nums to num\ndef f a nums to num : let x be ask q a ; give x"), "f", [[5, 6]])
        walk.turn()
        self.assertEqual(walk.end(), ("unheard", "q", (5, 6)))

    def test_an_end_that_asks_and_keeps_anew(self):
        self.turns(
            ASKS + "keeper k note num takes num gives num\n"
            "end x n : let y be ask q x ; if n : let m be n - 1 ; let z be keep k m f y ; give z else give y end\n"
            "hears q x h n : let y be go h x n ; give y\n"
            "keeper l note num takes num gives num\nend x n : give x\n"
            "hears q x h n : let s be x + 10 ; let y be go h s n ; give y\n"
            "def main to num : let x be keep l 0 g ; give x\ndef g to num : let x be keep k 1 f 5 ; give x\n"
            "def f a num to num : give a",
            "main", [],
            "main@0",
            "main@0 | [l 0] | g@0 -- keep l",
            "main@0 | [l 0] | g@0 | [k 1] | f@0 a=5 -- keep k",
            "main@0 | [l 0] | g@0 | end k@0 x=5 n=1 -- ended k",
            "main@0 | l.q@0 x=5 h=#0 n=0 -- ask q 0",
            "main@0 | l.q@1 x=5 h=#0 n=0 s=15",
            "main@0 | l.q@1 x=5 h=#0 n=0 s=15 | [l 0] | g@0 | end k@1 x=5 n=1 y=15 -- go 0",
            "main@0 | l.q@1 x=5 h=#0 n=0 s=15 | [l 0] | g@0 | end k@2 x=5 n=1 y=15",
            "main@0 | l.q@1 x=5 h=#0 n=0 s=15 | [l 0] | g@0 | end k@3 x=5 n=1 y=15 m=0",
            "main@0 | l.q@1 x=5 h=#0 n=0 s=15 | [l 0] | g@0 | end k@3 x=5 n=1 y=15 m=0 | [k 0] | f@0 a=15 -- keep k",
            "main@0 | l.q@1 x=5 h=#0 n=0 s=15 | [l 0] | g@0 | end k@3 x=5 n=1 y=15 m=0 | end k@0 x=15 n=0 -- ended k",
            "main@0 | l.q@1 x=5 h=#0 n=0 s=15 | l.q@0 x=15 h=#1 n=0 -- ask q 0",
            "main@0 | l.q@1 x=5 h=#0 n=0 s=15 | l.q@1 x=15 h=#1 n=0 s=25",
            "main@0 | l.q@1 x=5 h=#0 n=0 s=15 | l.q@1 x=15 h=#1 n=0 s=25 | [l 0] | g@0 | "
            "end k@3 x=5 n=1 y=15 m=0 | end k@1 x=15 n=0 y=25 -- go 1",
            "main@0 | l.q@1 x=5 h=#0 n=0 s=15 | l.q@1 x=15 h=#1 n=0 s=25 | [l 0] | g@0 | "
            "end k@3 x=5 n=1 y=15 m=0 | end k@5 x=15 n=0 y=25",
            "main@0 | l.q@1 x=5 h=#0 n=0 s=15 | l.q@1 x=15 h=#1 n=0 s=25 | [l 0] | g@0 | "
            "end k@4 x=5 n=1 y=15 m=0 z=25",
            "main@0 | l.q@1 x=5 h=#0 n=0 s=15 | l.q@1 x=15 h=#1 n=0 s=25 | [l 0] | g@1 x=25",
            "main@0 | l.q@1 x=5 h=#0 n=0 s=15 | l.q@1 x=15 h=#1 n=0 s=25 | end l@0 x=25 n=0 -- ended l",
            "main@0 | l.q@1 x=5 h=#0 n=0 s=15 | l.q@2 x=15 h=#1 n=0 s=25 y=25",
            "main@0 | l.q@2 x=5 h=#0 n=0 s=15 y=25",
            "main@1 x=25",
            "('gave', 25)",
        )


class Holds(Checked):
    def test_in_another_parts_place_under_other_keepers(self):
        self.turns(
            ASKS + HOLDER + "keeper l note num takes num gives num\nend x n : give x\n"
            "hears t x h n : let s be x + n ; let y be go h s n ; give y\n"
            "def main to num : let r be keep k 1 f ; case r none give 0 more h rest : "
            "let x be keep l 100 goer h ; let y be go h 6 7 ; give 1 end\n"
            "def f to num : let x be ask q 2 ; let y be ask t x ; give y\n"
            "def goer h hold k q to num : let y be go h 5 8 ; give 3",
            "main", [],
            "main@0",
            "main@0 | [k 1] | f@0 -- keep k",
            "main@0 | k.q@0 x=2 h=#0 n=1 -- ask q 0",
            "main@0 | k.q@1 x=2 h=#0 n=1 e=()",
            "main@0 | k.q@2 x=2 h=#0 n=1 e=() r=(#0)",
            "main@1 r=(#0)",
            "main@3 r=(#0) h=#0 rest=()",
            "main@3 r=(#0) h=#0 rest=() | [l 100] | goer@0 h=#0 -- keep l",
            "main@3 r=(#0) h=#0 rest=() | [l 100] | goer@0 h=#0 | [k 8] | f@1 x=5 -- go 0",
            "main@3 r=(#0) h=#0 rest=() | l.t@0 x=5 h=#1 n=100 -- ask t 0",
            "main@3 r=(#0) h=#0 rest=() | l.t@1 x=5 h=#1 n=100 s=105",
            "main@3 r=(#0) h=#0 rest=() | l.t@1 x=5 h=#1 n=100 s=105 | [l 100] | goer@0 h=#0 | "
            "[k 8] | f@2 x=5 y=105 -- go 1",
            "main@3 r=(#0) h=#0 rest=() | l.t@1 x=5 h=#1 n=100 s=105 | [l 100] | goer@0 h=#0 | "
            "end k@0 x=105 n=8 -- ended k",
            "main@3 r=(#0) h=#0 rest=() | l.t@1 x=5 h=#1 n=100 s=105 | [l 100] | goer@0 h=#0 | "
            "end k@1 x=105 n=8 -- tell 105",
            "main@3 r=(#0) h=#0 rest=() | l.t@1 x=5 h=#1 n=100 s=105 | [l 100] | goer@0 h=#0 | "
            "end k@2 x=105 n=8 -- tell 8",
            "main@3 r=(#0) h=#0 rest=() | l.t@1 x=5 h=#1 n=100 s=105 | [l 100] | goer@0 h=#0 | end k@3 x=105 n=8 e=()",
            "main@3 r=(#0) h=#0 rest=() | l.t@1 x=5 h=#1 n=100 s=105 | [l 100] | goer@1 h=#0 y=()",
            "main@3 r=(#0) h=#0 rest=() | l.t@1 x=5 h=#1 n=100 s=105 | end l@0 x=3 n=100 -- ended l",
            "main@3 r=(#0) h=#0 rest=() | l.t@2 x=5 h=#1 n=100 s=105 y=3",
            "main@4 r=(#0) h=#0 rest=() x=3",
            "main@4 r=(#0) h=#0 rest=() x=3 | [k 7] | f@1 x=6 -- go 0",
            "('unheard', 't', 6) main@4 r=(#0) h=#0 rest=() x=3 | [k 7] | f@1 x=6",
        )

    def test_out_of_a_note(self):
        text = ("ask q num to num\n" + NOTER + "def main to num : let e be empty holds k q ; let x be keep k e f ; "
                "give x\ndef f to num : let x be ask q 1 ; let y be ask q 2 ; let z be x + y ; give z")
        self.ends(text, "main", [], ("gave", 100),
                  "keep k; ask q 0; go 0; ask q 0; go 1; ended k; tell 3; go 0; ask q 0; go 2; ended k; tell 52; "
                  "go 1; ended k; tell 51; go 2; ended k; tell 100")
        rows = turns_drawn(Walk(sound(text), "main", []), 22)
        ahead = "main@1 e=() | k.q@1 x=1 h=#0 n=() m=(#0)"
        self.assertEqual(rows[1:9], [
            "main@1 e=()",
            "main@1 e=() | [k ()] | f@0 -- keep k",
            "main@1 e=() | k.q@0 x=1 h=#0 n=() -- ask q 0",
            ahead,
            ahead + " | [k (#0)] | f@1 x=1 -- go 0",
            ahead + " | k.q@0 x=2 h=#1 n=(#0) -- ask q 0",
            ahead + " | k.q@1 x=2 h=#1 n=(#0) m=(#0 #1)",
            ahead + " | k.q@1 x=2 h=#1 n=(#0) m=(#0 #1) | [k (#0 #1)] | f@2 x=1 y=2 -- go 1",
        ])
        ahead += " | k.q@1 x=2 h=#1 n=(#0) m=(#0 #1) | end k@3 x=3 n=(#0 #1) h=#0 rest=(#1)"
        self.assertEqual(rows[12:], [
            ahead,
            ahead + " | [k (#1)] | f@1 x=50 -- go 0",
            ahead + " | k.q@0 x=2 h=#2 n=(#1) -- ask q 0",
            ahead + " | k.q@1 x=2 h=#2 n=(#1) m=(#1 #2)",
            ahead + " | k.q@1 x=2 h=#2 n=(#1) m=(#1 #2) | [k (#1 #2)] | f@2 x=50 y=2 -- go 2",
            ahead + " | k.q@1 x=2 h=#2 n=(#1) m=(#1 #2) | [k (#1 #2)] | f@3 x=50 y=2 z=52",
            ahead + " | k.q@1 x=2 h=#2 n=(#1) m=(#1 #2) | end k@0 x=52 n=(#1 #2) -- ended k",
            ahead + " | k.q@1 x=2 h=#2 n=(#1) m=(#1 #2) | end k@1 x=52 n=(#1 #2) -- tell 52",
            ahead + " | k.q@1 x=2 h=#2 n=(#1) m=(#1 #2) | end k@3 x=52 n=(#1 #2) h=#1 rest=(#2)",
            ahead + " | k.q@1 x=2 h=#2 n=(#1) m=(#1 #2) | end k@3 x=52 n=(#1 #2) h=#1 rest=(#2) | "
            "[k (#2)] | f@2 x=1 y=50 -- go 1",
            ahead + " | k.q@1 x=2 h=#2 n=(#1) m=(#1 #2) | end k@3 x=52 n=(#1 #2) h=#1 rest=(#2) | "
            "[k (#2)] | f@3 x=1 y=50 z=51",
        ])

    def test_a_hold_as_the_note_itself(self):
        walk = self.ends(
            ASKS + HOLDER + "keeper l note hold k q takes num gives num\n"
            "end x n : let y be go n x 9 ; give x\nhears t x h n : let y be go h x n ; give y\n"
            "def main to num : let r be keep k 1 f ; case r none give 0 more h rest : "
            "let x be keep l h g ; give x end\n"
            "def f to num : let x be ask q 2 ; tell x ; give 4\ndef g to num : let x be ask t 8 ; give x",
            "main", [], ("gave", 8),
            "keep k; ask q 0; keep l; ask t 0; go 1; ended l; go 0; tell 8; ended k; tell 4; tell 9")
        self.assertEqual(walk.steps(), 20)
        walk = Walk(sound(ASKS + HOLDER + "keeper l note hold k q takes num gives num\nend x n : give x\n"
                          "def main to num : let r be keep k 1 f ; case r none give 0 more h rest : "
                          "let x be keep l h g ; give x end\ndef f to num : let x be ask q 2 ; give 4\n"
                          "def g to num : give 1"), "main", [])
        run_on(walk, 7)
        self.assertEqual(walk.ladder()[1], ("keep", "l", ("hold", 0)))

    def test_out_of_a_row_twice_the_same(self):
        self.ends(
            ASKS + HOLDER + "def main to num : let r be keep k 1 f ; case r none give 0 more h rest : "
            "let a be last r h ; let b be put h a ; let x be call each b 10 ; give x end\n"
            "def f to num : let x be ask q 2 ; tell x ; let y be x + 1 ; give y\n"
            "def each a holds k q b num to num : case a none give b more h rest : let x be go h b b ; "
            "let c be b + 1 ; let y be call each rest c ; give y end",
            "main", [], ("gave", 13),
            "keep k; ask q 0; go 0; tell 10; ended k; tell 11; tell 10; go 0; tell 11; ended k; tell 12; tell 11; "
            "go 0; tell 12; ended k; tell 13; tell 12")

    def test_holds_are_numbered_as_they_are_cut(self):
        walk = self.ends(
            ASKS + KEEPER + "hears q x h n : let y be go h x n ; give y\nhears r x h n : give x\n"
            "def main to num : let x be keep k 1 f ; let y be keep k 2 f ; let z be x + y ; give z\n"
            "def f to num : let x be ask q 1 ; let y be ask q 2 ; let z be ask r 3 ; give z",
            "main", [], ("gave", 6),
            "keep k; ask q 0; go 0; ask q 0; go 1; ask r 0; keep k; ask q 0; go 3; ask q 0; go 4; ask r 0")
        self.assertEqual(walk.steps(), 20)

    def test_a_hold_in_which_a_hold_lies(self):
        # What the outer hold has in its names is gone on with each time that it is laid back.
        self.ends(
            ASKS + HOLDER + "keeper l note num takes num gives num\nend x n : give x\n"
            "hears t x h n : let y be go h 1 n ; let z be go h 2 n ; let s be y + z ; give s\n"
            "def main to num : let x be keep l 0 g ; give x\n"
            "def g to num : let r be keep k 1 f ; case r none give 0 more h rest : let a be ask t 5 ; "
            "let x be go h a a ; let y be go h 9 a ; give a end\n"
            "def f to num : let x be ask q 2 ; tell x ; give x",
            "main", [], ("gave", 3),
            "keep l; keep k; ask q 1; ask t 0; "
            "go 1; go 0; tell 1; ended k; tell 1; tell 1; go 0; tell 9; ended k; tell 9; tell 1; ended l; "
            "go 1; go 0; tell 2; ended k; tell 2; tell 2; go 0; tell 9; ended k; tell 9; tell 2; ended l")

    def test_rich(self):
        for a in range(4):
            self.same_as_second_run(RICH, "main", [a])
            self.same_as_second_run(RICH, "hear", [a])
            self.same_as_second_run(RICH, "q", [a, [0, a, 2][:a]])
            self.same_as_second_run(RICH, "store", [a])
        self.same_as_second_run(RICH, "k", [])

    def test_programs_made_by_chance(self):
        ends = {}
        often = 0
        for seed in range(300):
            program = made(seed)
            walk = self.same_as_second_run(program, "main", args_for(program, seed), 120)
            ends[(walk.end() or ("dry",))[0]] = True
            gone = [row for row in walk.book() if row[0] == "go"]
            often += len(gone) > len(set(gone))
        self.assertEqual(sorted(ends), ["dry", "gave", "unheard"])
        self.assertGreater(often, 5)


class Ends(Checked):
    def test_behind_giving(self):
        walk = Walk(read("def f a num to num : tell a ; give a"), "f", [3])
        self.assertEqual(told_by(walk), ([("part", ("def", "f"), 0, {"a": 3})], 0, None, []))
        self.assertIs(walk.turn(), True)
        self.assertEqual(told_by(walk), ([("part", ("def", "f"), 1, {"a": 3})], 1, None, [("tell", 3)]))
        self.assertIs(walk.turn(), False)
        for _ in range(3):
            self.assertEqual(told_by(walk), ([], 2, ("gave", 3), [("tell", 3)]))
            self.assertIs(walk.turn(), False)

    def test_behind_an_ask_that_none_hears(self):
        walk = Walk(read(ASKS + KEEPER + "hears r x h n : give 1\ndef f to num : let x be keep k 4 g 6 ; give x\n"
                         "def g a num to num : tell a ; let x be ask q a ; give x"), "f", [])
        self.assertEqual([walk.turn() for _ in range(3)], [True, True, False])
        ladder = [("part", ("def", "f"), 0, {}), ("keep", "k", 4), ("part", ("def", "g"), 1, {"a": 6})]
        for _ in range(3):
            self.assertEqual(told_by(walk), (ladder, 3, ("unheard", "q", 6), [("keep", "k"), ("tell", 6)]))
            self.assertIs(walk.turn(), False)

    def test_the_first_step_may_be_the_end(self):
        walk = Walk(read("def f to num : give 0"), "f", ())
        self.assertIs(walk.turn(), False)
        self.assertEqual(told_by(walk), ([], 1, ("gave", 0), []))
        walk = Walk(read("ask q num to num\ndef f to num : let x be ask q 7 ; give x"), "f", ())
        self.assertIs(walk.turn(), False)
        self.assertEqual(told_by(walk), ([("part", ("def", "f"), 0, {})], 1, ("unheard", "q", 7), []))

    def test_without_turns_nothing_goes_on(self):
        walk = Walk(RICH, "main", [1])
        for _ in range(3):
            self.assertEqual(told_by(walk), ([("part", ("def", "main"), 0, {"a": 1})], 0, None, []))

    def test_many_turns(self):
        walk = Walk(read(ASKS + KEEPER + "hears q x h n : let m be n + 1 ; let y be go h m m ; give y\n"
                         "def main to num : let x be keep k 0 f ; give x\n"
                         "def f to num : let x be ask q 1 ; let y be x < 400 ; if y : let z be call f ; give z else "
                         "give x end"), "main", [])
        run_on(walk, 100000)
        self.assertEqual(walk.end(), ("gave", 400))
        self.assertEqual(walk.book()[-2:], [("ended", "k"), ("tell", 400)])

    def test_long_and_deep_parts(self):
        body = ("give", "x")
        for k in range(2000):
            body = ("tell", k, body)
        body = ("let", "x", 3, body)
        for k in range(2000):
            body = ("if", 0, ("give", k), body)
        program = ((), (), (("f", (), ("num",), body),))
        walk = Walk(program, "f", [])
        run_on(walk, 2001)
        number = walk.ladder()[0][2]
        self.assertEqual(pieces(body_of(program, ("def", "f")))[number], pieces(body)[4001])
        self.assertEqual(number, 4001)
        run_on(walk, 10000)
        self.assertEqual((walk.end(), walk.steps()), (("gave", 3), 4002))


class Kinds(Checked):
    def test_kinds_of_what_is_told(self):
        walk = Walk(RICH, "main", [1])
        goes = True
        while goes:
            goes = walk.turn()
            self.assertIs(type(walk.ladder()), list)
            self.assertIs(type(walk.book()), list)
            self.assertIs(type(walk.steps()), int)
            for step in walk.ladder():
                self.assertIs(type(step), tuple)
                if step[0] == "part":
                    _, part, n, names = step
                    self.assertEqual((type(part), type(n), type(names)), (tuple, int, dict))
                    self.assertTrue(all(type(v) in (int, tuple) for v in names.values()))
                else:
                    self.assertEqual(len(step), 3)
            self.assertTrue(all(type(row) is tuple for row in walk.book()))
        self.assertIs(type(walk.end()), tuple)


class Apart(Checked):
    def test_several_walks_on_the_way_at_once(self):
        programs = [made(seed) for seed in range(12)] + [RICH, RICH, RICH]
        args = [args_for(program, seed) for seed, program in enumerate(programs)]
        walks = [Walk(program, "main", arg) for program, arg in zip(programs, args)]
        alone = [[] for _ in walks]
        for number, (program, arg) in enumerate(zip(programs, args)):
            walk = Walk(program, "main", arg)
            for _ in range(60):
                walk.turn()
                alone[number].append(told_by(walk))
        for turn in range(60):
            for number in (range(15) if turn % 2 else range(14, -1, -1)):
                walks[number].turn()
                self.assertEqual(told_by(walks[number]), alone[number][turn])

    def test_args_as_lists_and_tuples(self):
        program = read("def f a nums b num to nums : let c be put b a ; give c")
        for args in ([[1, 2], 3], ([1, 2], 3), [(1, 2), 3], ((1, 2), 3)):
            walk = Walk(program, "f", args)
            self.assertEqual(walk.ladder(), [("part", ("def", "f"), 0, {"a": (1, 2), "b": 3})])
            self.assertIs(type(walk.ladder()[0][3]["a"]), tuple)
            self.assertEqual(run_on(walk).end(), ("gave", (3, 1, 2)))

    def test_args_changed_behind_the_making(self):
        program = read("def f a nums b num to nums : let c be put b a ; give c")
        row = [1, 2]
        args = [row, 3]
        walk = Walk(program, "f", args)
        row.append(9)
        args[1] = 8
        args.pop()
        self.assertEqual(walk.ladder(), [("part", ("def", "f"), 0, {"a": (1, 2), "b": 3})])
        walk.turn()
        row.clear()
        self.assertEqual(run_on(walk).end(), ("gave", (3, 1, 2)))
        self.assertEqual((row, args), ([], [row]))

    def test_nothing_handed_in_is_changed(self):
        program = copy.deepcopy(RICH)
        args = [3, [1, 0, 2]]
        run_on(Walk(program, "q", args))
        self.assertEqual((program, args), (RICH, [3, [1, 0, 2]]))

    def test_what_was_told_changed_and_told_again(self):
        for program, arg in ((RICH, [1]), (RICH, [3]), (sound(ASKS + KEEPER + "hears q x h n : let y be go h x n ; "
                              "let z be go h y 5 ; give z\ndef main a num to num : let x be keep k 0 f ; give x\n"
                              "def f to num : let x be ask q 1 ; let y be ask q x ; give y"), [1])):
            walk = Walk(program, "main", arg)
            other = Walk(program, "main", arg)
            goes = True
            while goes and walk.steps() < 300:
                ladder = walk.ladder()
                kept = copy.deepcopy(ladder)
                for step in ladder:
                    if step[0] == "part":
                        step[3]["zz"] = 1
                        for name in list(step[3]):
                            step[3][name] = 77
                ladder.clear()
                walk.book().append(("tell", 9))
                walk.book().clear()
                self.assertEqual(walk.ladder(), kept)
                self.assertEqual(told_by(walk), told_by(other))
                goes = walk.turn()
                self.assertIs(other.turn(), goes)
            self.assertEqual(told_by(walk), told_by(other))

    def test_what_was_told_stays_as_it_was(self):
        walk = Walk(RICH, "main", [2])
        told = []
        goes = True
        while goes:
            told.append((told_by(walk), copy.deepcopy(told_by(walk))))
            goes = walk.turn()
        for one, other in told:
            self.assertEqual(one, other)

    def test_asked_again_each_tells_the_same(self):
        walk = Walk(RICH, "main", [2])
        run_on(walk, 9)
        self.assertEqual(told_by(walk), told_by(walk))
        self.assertIsNot(walk.ladder(), walk.ladder())
        self.assertIsNot(walk.book(), walk.book())
        again = Walk(RICH, "main", [2])
        run_on(again, 9)
        self.assertEqual(told_by(again), told_by(walk))


if __name__ == "__main__":
    unittest.main()
