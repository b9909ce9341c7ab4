import copy
import unittest

from askladder.errors import AskError, NoBook, NoProgram, NoRow, NoText, NoTurn
from askladder.reader import read
from askladder.sound import look
from askladder.writer import shown
from tests.made import made, spoiled
from tests.programs import NUM, RICH
from tests.second_look import first_amiss
from tests.texts import EMPTY_PROGRAM, FULL_PROGRAM, NESTINGS, nested, of_one_body

# A program around one body, in which a num, b nums, c hold k q, d holds k s, e hold m r, o holds k q are bound.
STAGE = """ask q num to num
ask r nums to num
ask s num to nums
keeper k note num takes nums gives num
end x n : give n
hears q x h n : give n
hears s x h n : give n
keeper l note hold k q takes num gives holds k q
end x n : let e be empty holds k q ; give e
keeper m note holds k s takes num gives nums
end x n : let e be empty nums ; give e
hears r x h n : give x
def f v num w nums to num : give v
def g to nums : let e be empty nums ; give e
def i v hold k q w holds k s to hold k q : give v
def t a num b nums c hold k q d holds k s e hold m r o holds k q to num : """

SOUND_BODIES = """
give a
give 0
let x be a ; give x
let x be 5 ; give x
let x be c ; let y be go x a a ; give y
let x be a + 1 ; let y be 1 - x ; let z be y * y ; let v be z < a ; let w be v = 999999999 ; give w
let x be empty nums ; let y be put a x ; let z be last y 7 ; let w be put 1 z ; give a
let x be empty holds k q ; let y be put c x ; let z be last y c ; let w be last o c ; give 1
let x be empty holds k s ; let y be empty holds m r ; let z be put e y ; give 1
let x be put c o ; give 1
let x be call f a b ; give x
let x be call f 3 b ; give x
let x be call g ; let y be put 1 x ; give a
let x be call i c d ; let y be go x 1 2 ; give y
let x be ask q a ; let y be ask r b ; let z be ask s y ; let w be put x z ; give y
let x be keep k a g ; give x
let x be keep k 3 g ; give x
let x be keep l c f a b ; let y be put c x ; give a
let x be keep m d f 1 b ; let y be put 1 x ; give a
let x be go c a a ; give x
let x be go e a d ; let y be put 1 x ; give a
tell a ; tell 5 ; give 1
if a : give a else give 5 end
if 0 : let x be 1 ; give x else let x be b ; let y be put 1 x ; give 2 end
if a : let x be c ; let y be go x 1 1 ; give y else let x be 1 ; give x end
case b none give 1 more x y : let z be put x y ; give x end
case o none give 1 more x y : let z be put x y ; let w be go x 1 1 ; give w end
case d none give 1 more x y : let v be go x b 1 ; give v end
case b none let x be 1 ; let y be 2 ; give y more x y : let z be put x y ; give x end
case b none give 1 more x y : case y none let z be 1 ; give z more z w : give z end end
let q be 1 ; let k be q ; let f be k ; let t be f ; give t
let gave be 1 ; let hear be 2 ; let sum be 3 ; give gave
""".strip().split("\n")

# What each body is refused with: word, name, body.
AMISS_BODIES = """
unknown zz give zz
unknown zz let x be zz ; give a
unknown x let x be x ; give a
unknown zz let x be zz + 1 ; give a
unknown zz let x be 1 - zz ; give a
unknown yy let x be yy = zz ; give a
unknown zz let x be put zz b ; give a
unknown zz let x be put a zz ; give a
unknown yy let x be put yy zz ; give a
unknown zz let x be last zz a ; give a
unknown zz let x be last b zz ; give a
unknown yy let x be last yy zz ; give a
unknown zz let x be call f zz b ; give a
unknown zz let x be call f a zz ; give a
unknown yy let x be call f yy zz ; give a
unknown zz let x be ask q zz ; give a
unknown zz let x be keep k zz g ; give a
unknown zz let x be keep m d f zz b ; give a
unknown zz let x be keep m d f a zz ; give a
unknown yy let x be keep m yy f zz b ; give a
unknown yy let x be keep m d f yy zz ; give a
unknown zz let x be go zz a a ; give a
unknown zz let x be go c zz a ; give a
unknown zz let x be go c a zz ; give a
unknown yy let x be go yy zz a ; give a
unknown yy let x be go c yy zz ; give a
unknown zz tell zz ; give a
unknown zz if zz : give a else give a end
unknown zz case zz none give a more x y : give a end
unknown x if a : let x be 1 ; give x else give x end
unknown x if a : give x else let x be 1 ; give x end
unknown x case b none let x be 1 ; give x more v w : give x end
unknown v case b none give v more v w : give v end
unknown x case b none if a : let x be 1 ; give x else let x be 2 ; give x end more v w : give x end
unknown v if a : case b none give 1 more v w : give v end else give v end
unknown zz let x be call zz ; give a
unknown zz let x be call zz a b ; give a
unknown zz let x be ask zz a ; give a
unknown zz let x be keep zz a g ; give a
unknown zz let x be keep k a zz ; give a
unknown yy let x be keep yy a zz ; give a
unknown zz let x be empty holds zz q ; give a
unknown zz let x be empty holds k zz ; give a
unknown yy let x be empty holds yy zz ; give a
unknown r let x be empty holds k r ; give a
unknown q let x be empty holds l q ; give a
unknown k let x be call k ; give a
unknown q let x be call q ; give a
unknown a let x be call a ; give a
unknown f let x be ask f a ; give a
unknown k let x be ask k a ; give a
unknown a let x be ask a a ; give a
unknown g let x be keep g a g ; give a
unknown q let x be keep q a g ; give a
unknown k let x be keep k a k ; give a
unknown f let x be empty holds f q ; give a
unknown k let x be empty holds k k ; give a
count f let x be call f ; give a
count f let x be call f a ; give a
count f let x be call f a b a ; give a
count g let x be call g a ; give a
count f let x be keep m d f ; give a
count f let x be keep m d f a ; give a
count f let x be keep m d f a b b ; give a
count g let x be keep k a g b ; give a
kind b give b
kind c give c
kind o give o
kind b let x be b + a ; give a
kind b let x be a - b ; give a
kind c let x be c * d ; give a
kind d let x be 1 < d ; give a
kind b let x be b = b ; give a
kind a let x be put 1 a ; give a
kind 7 let x be put 1 7 ; give a
kind c let x be put 1 c ; give a
kind b let x be put b b ; give a
kind c let x be put c b ; give a
kind a let x be put a o ; give a
kind 0 let x be put 0 o ; give a
kind e let x be put e o ; give a
kind c let x be put c d ; give a
kind o let x be put o o ; give a
kind a let x be put b a ; give a
kind e let x be put c e ; give a
kind a let x be last a 1 ; give a
kind 999999999 let x be last 999999999 1 ; give a
kind c let x be last c 1 ; give a
kind b let x be last b b ; give a
kind a let x be last o a ; give a
kind e let x be last o e ; give a
kind c let x be last d c ; give a
kind c let x be last c b ; give a
kind b let x be call f b b ; give a
kind a let x be call f a a ; give a
kind 7 let x be call f 5 7 ; give a
kind b let x be call f b a ; give a
kind c let x be call f 1 c ; give a
kind e let x be call i e d ; give a
kind o let x be call i c o ; give a
kind o let x be call i o d ; give a
kind 1 let x be call i 1 d ; give a
kind b let x be ask q b ; give a
kind c let x be ask q c ; give a
kind a let x be ask r a ; give a
kind 12 let x be ask r 12 ; give a
kind b let x be ask s b ; give a
kind b let x be keep k b g ; give a
kind a let x be keep l a f a b ; give a
kind e let x be keep l e f a b ; give a
kind 4 let x be keep l 4 f a b ; give a
kind o let x be keep m o f a b ; give a
kind a let x be keep m a f b a ; give a
kind b let x be keep m d f b b ; give a
kind a let x be keep m d f a a ; give a
kind g let x be keep m d g ; give a
kind f let x be keep k 1 f a b ; give a
kind i let x be keep k 1 i c d ; give a
kind a let x be go a a a ; give a
kind 0 let x be go 0 a a ; give a
kind b let x be go b a a ; give a
kind o let x be go o a a ; give a
kind b let x be go c b a ; give a
kind b let x be go c a b ; give a
kind b let x be go c b d ; give a
kind d let x be go e d a ; give a
kind a let x be go e a a ; give a
kind o let x be go e a o ; give a
kind 4 let x be go e 3 4 ; give a
kind b tell b ; give a
kind c tell c ; give a
kind b if b : give a else give a end
kind e if e : give a else give a end
kind a case a none give a more x y : give a end
kind 3 case 3 none give a more x y : give a end
kind c case c none give a more x y : give a end
kind x let x be b ; give x
kind x let x be a + 1 ; let y be put a x ; give a
kind x let x be empty nums ; give x
kind 1 let x be empty holds k q ; let y be put 1 x ; give 1
kind x let x be put a b ; give x
kind x let x be last b a ; give x
kind a let x be put c o ; let y be put a x ; give 1
kind x let x be call g ; give x
kind x let x be call i c d ; give x
kind x let x be ask s a ; give x
kind x let x be ask q a ; let y be put 1 x ; give 1
kind x let x be keep l c f a b ; give x
kind x let x be keep m d f a b ; give x
kind x let x be go e a d ; give x
kind x let x be go c a a ; let y be put 1 x ; give 1
kind y case b none give 1 more x y : give y end
kind x case b none give 1 more x y : let z be put 1 x ; give 1 end
kind x case o none give 1 more x y : give x end
kind y case o none give 1 more x y : let z be go y 1 1 ; give 1 end
kind x if a : let x be 1 ; give x else let x be b ; give x end
kind x if a : let x be b ; give x else let x be 1 ; give x end
twice a let a be 1 ; give a
twice a let a be a ; give a
twice a let a be a + 1 ; give a
twice a let a be empty nums ; give 1
twice a let a be put 1 b ; give 1
twice a let a be last b 1 ; give 1
twice a let a be call f a b ; give 1
twice a let a be ask q a ; give 1
twice a let a be keep k a g ; give 1
twice a let a be go c a a ; give 1
twice o let o be 1 ; give 1
twice x let x be 1 ; let x be 2 ; give 1
twice x let x be 1 ; tell 1 ; if a : let x be 2 ; give 1 else give 1 end
twice x let x be 1 ; tell 1 ; if a : give 1 else let x be 2 ; give 1 end
twice x let x be 1 ; case b none let x be 2 ; give 1 more v w : give 1 end
twice x let x be 1 ; case b none give 1 more v w : let x be 2 ; give 1 end
twice v case b none give 1 more v w : let v be 2 ; give 1 end
twice w case b none give 1 more v w : let w be 2 ; give 1 end
twice a case b none give 1 more a w : give 1 end
twice a case b none give 1 more v a : give 1 end
twice v case b none give 1 more v v : give 1 end
twice a case b none give 1 more a a : give 1 end
twice b case b none give 1 more b a : give 1 end
twice a case b none give 1 more v w : case w none give 1 more a b : give 1 end end
unknown zz case b none give zz more a w : give 1 end
kind b case b none give b more a w : give 1 end
twice b case b none let b be 1 ; give 1 more a w : give 1 end
twice a case b none give 1 more a w : give zz end
twice v case b none give 1 more v v : give zz end
unknown zz case zz none give yy more a a : give xx end
kind a case a none give yy more a a : give xx end
unknown yy let a be call zz yy ; give xx
unknown zz let a be call zz b ; give xx
count f let a be call f b ; give xx
kind b let a be call f b b ; give xx
twice a let a be call f a b ; give xx
unknown yy let a be ask zz yy ; give xx
unknown zz let a be ask zz b ; give xx
kind b let a be ask q b ; give xx
twice a let a be ask q a ; give xx
unknown yy let a be keep zz yy zz vv ; give xx
unknown vv let a be keep zz a zz vv ; give xx
unknown yy let a be keep yy a zz a ; give xx
unknown zz let a be keep k b zz a ; give xx
count g let a be keep k b g a ; give xx
count f let a be keep k b f a ; give xx
kind b let a be keep k b f a a ; give xx
kind a let a be keep k 1 f a a ; give xx
kind f let a be keep k 1 f a b ; give xx
twice a let a be keep k 1 g ; give xx
unknown zz let a be go a b zz ; give xx
kind a let a be go a b b ; give xx
kind b let a be go c b d ; give xx
kind d let a be go c a d ; give xx
twice a let a be go c a a ; give xx
unknown zz let a be empty holds zz yy ; give xx
unknown zz let a be put b zz ; give xx
unknown zz let a be put zz a ; give xx
kind a let a be put b a ; give xx
kind b let a be put b b ; give xx
twice a let a be put 1 b ; give xx
kind c let a be last c b ; give xx
kind b let a be last b b ; give xx
twice a let a be last b 1 ; give xx
unknown zz let a be b + zz ; give xx
kind b let a be b + c ; give xx
kind b tell b ; give zz
unknown zz tell zz ; tell b ; give 1
twice a let a be 1 ; tell b ; give zz
unknown zz if a : give zz else give b end
kind b if a : give 1 else give b end
unknown zz if zz : give b else give b end
unknown x let y be x ; let x be 1 ; give x
""".strip().split("\n")

# What the stage is refused with where a part of its text is put in another's place: word, name, [(old, new)].
# The body of t is `give zz`, so that what stands ahead of it is refused first.
AMISS_ROWS = (
    ("twice", "q", [("ask r nums", "ask q nums")]),
    ("twice", "q", [("ask s num", "ask q num")]),
    ("twice", "r", [("ask s num", "ask r num")]),
    ("kind", "q", [("ask q num to num", "ask q hold k q to num")]),
    ("kind", "r", [("ask r nums to num", "ask r nums to holds k q")]),
    ("kind", "s", [("ask s num to nums", "ask s holds zz yy to nums")]),
    ("kind", "s", [("ask s num to nums", "ask s num to hold zz yy")]),
    ("kind", "q", [("ask q num to num", "ask q hold k q to hold k q"), ("ask r nums", "ask q nums")]),
    ("twice", "q", [("ask r nums to num", "ask q hold k q to num")]),
    ("twice", "q", [("ask r nums", "ask q nums"), ("ask s num to", "ask s hold k q to")]),
    ("kind", "r", [("ask r nums to num", "ask r nums to hold k q"), ("ask s num", "ask q num")]),
    ("kind", "s", [("ask s num to nums", "ask s num to hold k q"), ("keeper l", "keeper k")]),
    ("twice", "k", [("keeper l", "keeper k")]),
    ("twice", "k", [("keeper m", "keeper k")]),
    ("twice", "l", [("keeper m", "keeper l")]),
    ("twice", "k", [("keeper l", "keeper k"), ("hears q x h n", "hears zz x h n")]),
    ("unknown", "zz", [("hears q x h n", "hears zz x h n")]),
    ("unknown", "zz", [("hears r x h n", "hears zz x h n")]),
    ("unknown", "f", [("hears s x h n", "hears f x h n")]),
    ("unknown", "k", [("hears s x h n", "hears k x h n")]),
    ("twice", "q", [("hears s x h n", "hears q x h n")]),
    ("twice", "q", [("hears s x h n", "hears q x h n"), ("hears r x h n", "hears zz x h n")]),
    ("unknown", "zz", [("hears q x h n", "hears zz x h n"), ("hears s x h n", "hears zz x h n")]),
    ("unknown", "zz", [("hears r x h n", "hears zz x h n"), ("def g", "def f")]),
    ("twice", "q", [("hears s x h n", "hears q x h n"), ("def g", "def f")]),
    ("twice", "f", [("def g", "def f")]),
    ("twice", "f", [("def i", "def f")]),
    ("twice", "g", [("def t", "def g")]),
    ("twice", "f", [("def g", "def f"), ("def t", "def i")]),
    ("twice", "f", [("def g", "def f"), ("note num", "note hold zz q")]),
    ("unknown", "zz", [("note num", "note hold zz q")]),
    ("unknown", "zz", [("note num", "note holds k zz")]),
    ("unknown", "zz", [("note num", "note holds zz yy")]),
    ("unknown", "r", [("note num", "note hold k r")]),
    ("unknown", "q", [("note num", "note hold l q")]),
    ("unknown", "zz", [("takes nums", "takes hold zz q")]),
    ("unknown", "s", [("takes nums", "takes holds m s")]),
    ("unknown", "zz", [("takes nums gives num", "takes nums gives holds zz q")]),
    ("unknown", "r", [("takes nums gives num", "takes nums gives hold k r")]),
    ("unknown", "r", [("note num", "note hold k r"), ("takes nums", "takes hold zz q")]),
    ("unknown", "zz", [("takes nums gives num", "takes hold zz q gives hold k r")]),
    ("unknown", "zz", [("gives holds k q", "gives holds k zz")]),
    ("unknown", "zz", [("note hold k q", "note hold zz q"), ("gives nums", "gives holds k yy")]),
    ("unknown", "zz", [("gives nums", "gives holds k zz"), ("def f v num w nums", "def f v num v nums")]),
    ("twice", "v", [("def f v num w nums", "def f v num v nums")]),
    ("twice", "a", [("e hold m r", "a hold m r")]),
    ("twice", "v", [("def f v num w nums", "def f v num v hold zz q")]),
    ("unknown", "zz", [("def f v num w nums", "def f v hold zz q v nums")]),
    ("unknown", "zz", [("def f v num w nums", "def f v num w holds zz q")]),
    ("unknown", "zz", [("def f v num w nums to num", "def f v num w nums to hold k zz")]),
    ("unknown", "yy", [("def f v num w nums to num", "def f v num w hold k yy to hold k zz")]),
    ("unknown", "zz", [("def g to nums", "def g to holds zz q")]),
    ("unknown", "zz", [("def f v num w nums to num", "def f v num w nums to hold k zz"),
                       ("def g to nums", "def g v num v num to num")]),
    ("twice", "v", [("def f v num w nums to num", "def f v num v nums to hold k zz")]),
    ("unknown", "q", [("def i v hold k q", "def i v hold l q")]),
    ("unknown", "zz", [("o holds k q to num", "o holds k q to hold zz q"), ("end x n : give n", "end x x : give n")]),
    ("twice", "x", [("end x n : give n", "end x x : give n")]),
    ("twice", "v", [("end x n : give n", "end v v : give zz")]),
    ("unknown", "x", [("end x n : give n", "end y n : give x")]),
    ("kind", "x", [("end x n : give n", "end x n : give x")]),
    ("kind", "n", [("takes nums gives num\nend", "takes nums gives nums\nend")]),
    ("twice", "x", [("hears q x h n", "hears q x x n")]),
    ("twice", "x", [("hears q x h n", "hears q x h x")]),
    ("twice", "h", [("hears q x h n", "hears q x h h")]),
    ("twice", "x", [("hears q x h n", "hears q x x x")]),
    ("twice", "h", [("hears s x h n : give n", "hears s x h h : give zz")]),
    ("kind", "h", [("hears q x h n : give n", "hears q x h n : give h")]),
    ("kind", "zz", [("hears q x h n : give n", "hears q x zz n : give zz")]),
    ("kind", "x", [("hears r x h n : give x", "hears r x h n : tell x ; give x")]),
    ("kind", "n", [("hears r x h n : give x", "hears r x h n : give n")]),
    ("kind", "x", [("hears q x h n : give n", "hears q x h n : let y be ask r x ; give n")]),
    ("kind", "h", [("hears s x h n : give n", "hears s x h n : let e be empty holds k q ; "
                    "let y be put h e ; give n")]),
    ("kind", "n", [("hears r x h n : give x", "hears r x h n : let y be go h 1 1 ; give n"),
                   ("note holds k s", "note num")]),
    ("unknown", "yy", [("end x n : give n", "end x n : give yy"),
                       ("hears q x h n : give n", "hears q x x n : give n")]),
    ("twice", "x", [("hears q x h n", "hears q x x n"), ("hears s x h n", "hears s x h h")]),
    ("unknown", "ww", [("hears s x h n : give n", "hears s x h n : give ww"),
                       ("let e be empty holds k q", "let e be empty holds k r")]),
    ("unknown", "r", [("let e be empty holds k q", "let e be empty holds k r"),
                      ("def g to nums : let e", "def g to nums : let f")]),
    ("unknown", "ww", [("hears r x h n : give x", "hears r x h n : give ww"), ("give v\ndef g", "give w\ndef g")]),
    ("kind", "w", [("give v\ndef g", "give w\ndef g"), ("let e be empty nums ; give e\ndef i", "give yy\ndef i")]),
    ("unknown", "yy", [("let e be empty nums ; give e\ndef i", "give yy\ndef i")]),
    ("kind", "w", [("to hold k q : give v", "to hold k q : give w")]),
    ("kind", "5", [("to hold k q : give v", "to hold k q : give 5")]),
)


class Checked(unittest.TestCase):
    def refused(self, program, word, name):
        with self.assertRaises(NoProgram) as caught:
            look(program)
        self.assertEqual((caught.exception.word, caught.exception.name), (word, name), shown(program))

    def let_by(self, program):
        self.assertIs(look(program), True)


class Sound(Checked):
    def test_the_program_without_all(self):
        self.let_by(EMPTY_PROGRAM)

    def test_rich(self):
        self.let_by(RICH)

    def test_each_piece(self):
        for body in SOUND_BODIES:
            self.assertIsNone(first_amiss(read(STAGE + body)), body)
            self.let_by(read(STAGE + body))

    def test_names_of_unlike_sorts_are_alike(self):
        self.let_by(read(
            "ask k num to num\nkeeper k note num takes num gives num\nend k x : let y be call k x k ; give y\n"
            "hears k k h x : let ks be go h k x ; give ks\nkeeper q note num takes num gives num\nend q n : give q\n"
            "def k k num q num to num : let f be keep k k q ; let h be ask k q ; give f\n"
            "def q to num : let k be call q ; let q be keep q k k 1 2 ; give q"))

    def test_parts_have_names_of_their_own(self):
        self.let_by(read("ask q num to num\nkeeper k note num takes num gives num\nend x n : let y be 1 ; give y\n"
                         "hears q x h n : let y be 2 ; give y\ndef f x num h num to num : let y be x ; give y\n"
                         "def g x num n num to num : let y be n ; give y"))

    def test_asks_alone_keepers_alone(self):
        self.let_by(read("ask q num to nums\nask r nums to num"))
        self.let_by(read("keeper k note num takes nums gives num\nend x n : give n"))

    def test_kinds_of_keepers_that_stand_below(self):
        self.let_by(read(
            "ask q num to num\nkeeper a note holds b q takes hold b q gives hold b q\nend x n : give x\n"
            "keeper b note hold b q takes num gives num\nend x n : give x\nhears q x h n : let y be go h x n ; give y"))

    def test_more_than_bounds_tell(self):
        rows = ["ask %s num to num" % q for q in "abcdefghijkm"]
        for k in "abcdefgh":
            rows += ["keeper %s note num takes num gives num" % k, "end x n : give x"]
            rows += ["hears %s x h n : give x" % q for q in "mkjihgfedcba"]
        for f in "abcdefghijkmnopq":
            params = " ".join("%s num" % x for x in "abcdefgh")
            args = " ".join("abcdefgh")
            rows.append("def %s %s to num : let x be call %s %s ; give x" % (f, params, f, args))
        self.let_by(read("\n".join(rows)))

    def test_deep_and_long_bodies(self):
        body = ("give", 1)
        for k in range(3000):
            body = ("tell", k, body)
        self.let_by(of_one_body(body))
        body = ("give", 1)
        for k in range(3000):
            body = ("if", k, body, ("give", k))
        self.let_by(of_one_body(body))
        names = [a + b + c for a in "xyz" for b in "abcdefghijklmnopqrstuvwxyz" for c in "abcdefghijklmnopqrstuvwxyz"]
        body = ("give", names[0])
        for name in names:
            body = ("let", name, 1, body)
        self.let_by(of_one_body(body))


class Amiss(Checked):
    def test_bodies(self):
        for row in AMISS_BODIES:
            word, name, body = row.split(" ", 2)
            program = read(STAGE + body)
            self.assertEqual(first_amiss(program), (word, name), body)
            self.refused(program, word, name)

    def test_bodies_within_arms_and_behind_pieces(self):
        for row in AMISS_BODIES:
            word, name, body = row.split(" ", 2)
            for around in ("tell a ; @", "if a : @ else give zzz end", "if a : give 1 else @ end",
                           "case b none @ more va wa : give zzz end", "case b none give 1 more va wa : @ end",
                           "let ua be 1 ; let wa be empty nums ; @"):
                text = STAGE + around.replace("@", body)
                self.refused(read(text), word, name)

    def test_bodies_in_a_hear(self):
        tried = 0
        for row in AMISS_BODIES:
            word, name, body = row.split(" ", 2)
            if not {"d", "e"} & set(body.split(" ")):
                ahead = "hears q a c uu : let b be empty nums ; let o be empty holds k q ; "
                text = (STAGE + "give 1").replace("hears q x h n : give n", ahead + body)
                self.refused(read(text), word, name)
                tried += 1
        self.assertGreater(tried, 150)

    def test_bodies_in_an_end(self):
        tried = 0
        for row in AMISS_BODIES:
            word, name, body = row.split(" ", 2)
            if not {"c", "d", "e"} & set(body.split(" ")):
                ahead = "end b a : let o be empty holds k q ; "
                text = (STAGE + "give 1").replace("end x n : give n", ahead + body)
                self.refused(read(text), word, name)
                tried += 1
        self.assertGreater(tried, 100)

    def test_rows(self):
        for word, name, changes in AMISS_ROWS:
            text = STAGE + "give zz"
            for old, new in changes:
                self.assertEqual(text.count(old), 1, (old, text))
                text = text.replace(old, new)
            self.assertEqual(first_amiss(read(text)), (word, name), changes)
            self.refused(read(text), word, name)

    def test_all_ahead_of_the_parts_of_a_program_that_is_amiss_all_over(self):
        self.refused(FULL_PROGRAM, "kind", "odd")

    def test_what_is_told_is_a_text(self):
        for row in AMISS_BODIES:
            word, name, body = row.split(" ", 2)
            with self.assertRaises(NoProgram) as caught:
                look(read(STAGE + body))
            self.assertIs(type(caught.exception.word), str)
            self.assertIs(type(caught.exception.name), str)

    def test_a_refusal_is_a_no_program_and_none_of_the_others(self):
        for refused in (NoProgram, AskError, ValueError):
            with self.assertRaises(refused) as caught:
                look(of_one_body(("give", "x")))
            self.assertIs(type(caught.exception), NoProgram)
            self.assertNotIsInstance(caught.exception, (NoText, NoBook, NoTurn, NoRow))

    def test_deep_bodies(self):
        for sort in NESTINGS:
            program = of_one_body(nested([sort], 500))
            self.refused(program, *first_amiss(program))
        body = ("give", "zz")
        for k in range(3000):
            body = ("tell", k, body)
        self.refused(of_one_body(body), "unknown", "zz")
        for k in range(3000):
            body = ("if", k, ("give", k), body)
        self.refused(of_one_body(body), "unknown", "zz")

    def test_programs_spoiled_by_chance(self):
        words = {}
        for seed in range(1500):
            program = spoiled(made(seed // 5), seed)
            amiss = first_amiss(program)
            words[amiss and amiss[0]] = words.get(amiss and amiss[0], 0) + 1
            if amiss is None:
                self.let_by(program)
            else:
                self.refused(program, *amiss)
        # Else the programs tell too little.
        self.assertEqual(sorted(map(str, words)), ["None", "count", "kind", "twice", "unknown"])
        self.assertGreater(min(words.values()), 10)


class Unchanged(Checked):
    def test_nothing_handed_in_is_changed_and_the_same_is_told_again(self):
        for text in (STAGE + "give 1", STAGE + "give zz", STAGE + "let a be 1 ; give b"):
            program = read(text)
            kept = copy.deepcopy(program)
            outcomes = []
            for _ in range(3):
                try:
                    outcomes.append(look(program))
                except NoProgram as refusal:
                    outcomes.append((refusal.word, refusal.name))
                self.assertEqual(program, kept)
            self.assertEqual(outcomes, outcomes[:1] * 3)

    def test_programs_do_not_hinder_one_another(self):
        one, other = of_one_body(("give", "x")), ((), (), (("f", (("x", NUM),), NUM, ("give", "x")),))
        self.refused(one, "unknown", "x")
        self.let_by(other)
        self.refused(one, "unknown", "x")


if __name__ == "__main__":
    unittest.main()
