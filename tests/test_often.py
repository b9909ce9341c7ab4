import copy
import unittest

from askladder.often import hold_words, param_words
from askladder.reader import read
from askladder.sound import look
from askladder.walk import Walk
from tests.made import args_for, made
from tests.programs import RICH
from tests.second_often import all_fixed, second_holds, second_params

# A keeper of q, one that has holds of q as notes, and functions that have holds as params.
HEAD = ("ask q num to num\nask r nums to num\n"
        "keeper k note num takes num gives num\nend x n : give x\n%s"
        "keeper l note hold k q takes num gives num\nend x n : let y be go n x 0 ; give y\n"
        "hears q x h n : let y be go h x n ; give y\n")
KEEPER = HEAD % "hears q x h n : give x\n"


def sound(text):
    program = read(text.strip())
    look(program)
    return program


def params_of(*functions):
    return param_words(sound(KEEPER + "\n".join(functions)))


class Params(unittest.TestCase):
    def test_of_a_holds_kind_alone_by_their_numbers_among_all(self):
        told = params_of("def f a num b hold k q c nums d hold l q e holds k q g num to num : give a",
                         "def g to num : give 1", "def h h hold k q to num : give 1")
        self.assertEqual(told, {("f", 1): "none", ("f", 3): "none", ("h", 0): "none"})
        self.assertEqual(list(told), [("f", 1), ("f", 3), ("h", 0)])
        self.assertEqual(params_of("def f a num to num : give a"), {})
        self.assertEqual(param_words(((), (), ())), {})

    def word(self, body, *functions):
        """The word of h in a function of the body; g is an atom of the row's kind, m a hold of l."""
        program = sound(KEEPER + "\n".join((
            "def f h hold k q g holds k q m hold l q to num : %s" % body,
            "def nought h hold k q to num : give 0",
            "def ones h hold k q to num : let x be go h 1 2 ; give x",
            "def often h hold k q to num : let x be go h 1 2 ; let y be go h 1 2 ; give x",
            "def two h hold k q i hold k q to num : let x be go h 1 2 ; give x",
        ) + functions))
        self.assertEqual(param_words(program), second_params(program))
        return param_words(program)[("f", 0)]

    def test_gone_on_with(self):
        self.assertEqual(self.word("give 0"), "none")
        self.assertEqual(self.word("let x be go h 1 2 ; give x"), "one")
        self.assertEqual(self.word("let x be go h 1 2 ; give 0"), "one")
        self.assertEqual(self.word("let x be go h 1 2 ; let y be go h 1 2 ; give x"), "many")
        self.assertEqual(self.word("let x be go h 1 2 ; let y be go h 1 2 ; let z be go h 0 0 ; give x"), "many")

    def test_the_greatest_way_counts(self):
        go = "let x be go h 1 2 ; "
        self.assertEqual(self.word("if 1 : give 1 else " + go + "give x end"), "one")
        self.assertEqual(self.word("if 1 : " + go + "give x else give 1 end"), "one")
        self.assertEqual(self.word("if 1 : " + go + "give x else " + go + "give x end"), "one")
        self.assertEqual(self.word("let y be go h 0 0 ; if 1 : " + go + "give x else give y end"), "many")
        self.assertEqual(self.word("let y be go h 0 0 ; if 1 : give y else " + go + "give x end"), "many")
        self.assertEqual(self.word("case g none " + go + "give x more y z : " + go + "give x end"), "one")
        self.assertEqual(self.word("case g none give 1 more y z : " + go + "let v be go h 1 2 ; give x end"), "many")
        self.assertEqual(self.word("if 1 : if 2 : give 1 else " + go + "give x end else " + go + "give x end"), "one")
        self.assertEqual(self.word("if 1 : if 2 : give 1 else " + go + "let y be go h 1 2 ; give x end else give 0 end"),
                         "many")

    def test_other_uses_weigh_two(self):
        self.assertEqual(self.word("let x be h ; give 0"), "many")
        self.assertEqual(self.word("let r be put h g ; give 0"), "many")
        self.assertEqual(self.word("let r be last g h ; give 0"), "many")
        self.assertEqual(self.word("let x be keep l h gg 1 ; give x", "def gg a num to num : give a"), "many")
        self.assertEqual(self.word("let x be go m 1 h ; give x"), "many")
        program = sound(KEEPER + "def f h hold k q to hold k q : give h")
        self.assertEqual(param_words(program), {("f", 0): "many"})

    def test_a_row_of_holds_is_none(self):
        self.assertEqual(self.word("case g none give 1 more x y : let z be go x 1 2 ; let v be go x 1 2 ; give z end"),
                         "none")

    def test_handed_to_a_call_or_a_keep(self):
        for f, words in (("nought", ("none", "none")), ("ones", ("one", "many")), ("often", ("many", "many"))):
            for piece in ("let %s be call %s h ; ", "let %s be keep k 1 %s h ; "):
                once = piece % ("x", f)
                self.assertEqual(self.word(once + "give x"), words[0])
                self.assertEqual(self.word(once + piece % ("y", f) + "give x"), words[1])
                self.assertEqual(self.word(once + "let y be call nought h ; give x"), words[0])
        self.assertEqual(self.word("let x be call ones h ; let y be go h 1 2 ; give x"), "many")
        self.assertEqual(self.word("let x be call nought h ; let y be go h 1 2 ; give x"), "one")

    def test_handed_on_twice_to_the_same_function(self):
        self.assertEqual(self.word("let x be call two h h ; give x"), "one")
        self.assertEqual(self.word("let x be call both h h ; give x", "def both h hold k q i hold k q to num : "
                                   "let x be go h 1 2 ; let y be go i 1 2 ; give x"), "many")
        self.assertEqual(self.word("let x be call unused h h ; give x", "def unused h hold k q i hold k q to num : "
                                   "give 0"), "none")
        self.assertEqual(self.word("let x be keep k 0 both h h ; give x", "def both h hold k q i hold k q to num : "
                                   "if 1 : let x be go h 1 2 ; give x else let y be go i 1 2 ; give y end"), "many")

    def test_named_anew_and_handed_on(self):
        self.assertEqual(self.word("let i be h ; let x be call nought i ; give x"), "many")

    def test_handed_round_one_another(self):
        self.assertEqual(params_of("def f h hold k q to num : let x be call g h ; give x",
                                   "def g i hold k q to num : let x be call h i ; give x",
                                   "def h j hold k q to num : let x be call f j ; give x"),
                         {("f", 0): "none", ("g", 0): "none", ("h", 0): "none"})
        self.assertEqual(params_of("def f h hold k q to num : let x be call f h ; let y be call f h ; give x"),
                         {("f", 0): "none"})
        self.assertEqual(params_of("def f h hold k q i hold k q to num : let x be call f i h ; give x"),
                         {("f", 0): "none", ("f", 1): "none"})

    def test_handed_round_and_gone_on_with_somewhere(self):
        self.assertEqual(params_of("def f h hold k q to num : let x be call g h ; give x",
                                   "def g i hold k q to num : if 1 : let x be call f i ; give x else "
                                   "let x be go i 1 2 ; give x end"),
                         {("f", 0): "one", ("g", 0): "one"})
        self.assertEqual(params_of("def f h hold k q to num : let x be call g h ; give x",
                                   "def g i hold k q to num : let x be call f i ; let y be go i 1 2 ; give x"),
                         {("f", 0): "many", ("g", 0): "many"})
        self.assertEqual(params_of("def f h hold k q i hold k q to num : if 1 : let x be call f i h ; give x else "
                                   "let x be go h 1 2 ; give x end"),
                         {("f", 0): "one", ("f", 1): "one"})

    def test_told_are_the_least(self):
        for text in (
            "def f h hold k q to num : let x be call g h ; give x\n"
            "def g i hold k q to num : let x be call f i ; give x",
            "def f h hold k q to num : let x be call g h ; give x\n"
            "def g i hold k q to num : if 1 : let x be call f i ; give x else let x be go i 1 2 ; give x end",
            "def f h hold k q i hold k q to num : let x be call f i h ; give x\n"
            "def g h hold k q to num : let x be call f h h ; let y be call g h ; give x",
        ):
            program = sound(KEEPER + text)
            found = list(all_fixed(program))
            self.assertGreater(len(found), 1)
            least = {key: ("none", "one", "many")[min(weights[key] for weights in found)] for key in found[0]}
            self.assertEqual(param_words(program), least)


class Holds(unittest.TestCase):
    def word(self, body, *functions):
        program = sound(HEAD % ("hears q x h n : %s\n" % body) + "\n".join((
            "def nought h hold k q to num : let x be call nought h ; give x",
            "def ones h hold k q to num : let x be go h 1 2 ; give x",
            "def often h hold k q to num : let x be go h 1 2 ; let y be go h 1 2 ; give x",
            "def kept a num to num : let x be ask q a ; give x",
        ) + functions))
        self.assertEqual(hold_words(program), second_holds(program))
        return hold_words(program)[("k", "q")]

    def test_never(self):
        self.assertEqual(self.word("give x"), "never")
        self.assertEqual(self.word("let y be call nought h ; give y"), "never")
        self.assertEqual(self.word("let y be call nought h ; let z be keep k 0 nought h ; give y"), "never")

    def test_last_in_each_arm(self):
        self.assertEqual(self.word("let y be go h x n ; give y"), "last")
        self.assertEqual(self.word("let y be go h 0 0 ; give y"), "last")
        self.assertEqual(self.word("tell x ; let s be x + n ; let y be go h s s ; give y"), "last")
        self.assertEqual(self.word("if x : let y be go h x n ; give y else let z be go h n x ; give z end"), "last")
        self.assertEqual(self.word("let r be empty nums ; case r none let y be go h x n ; give y more a b : if a : "
                                   "let y be go h 1 2 ; give y else let i be call kept 0 ; let y be go h 2 i ; "
                                   "give y end end"), "last")
        self.assertEqual(self.word("let a be ask q 0 ; let b be keep k 1 kept 2 ; let y be go h a b ; give y"), "last")

    def test_not_last_where_a_way_has_none(self):
        self.assertEqual(self.word("if x : let y be go h x n ; give y else give 0 end"), "once")
        self.assertEqual(self.word("if x : give 0 else let y be go h x n ; give y end"), "once")

    def test_not_last_for_what_stands_behind_the_go(self):
        self.assertEqual(self.word("let y be go h x n ; tell y ; give y"), "once")
        self.assertEqual(self.word("let y be go h x n ; let z be y ; give z"), "once")
        self.assertEqual(self.word("let y be go h x n ; if y : give y else give y end"), "once")
        self.assertEqual(self.word("let y be go h x n ; give x"), "once")
        self.assertEqual(self.word("let y be go h x n ; give 0"), "once")

    def test_not_last_where_only_a_call_goes_on(self):
        self.assertEqual(self.word("let y be call ones h ; give y"), "once")
        self.assertEqual(self.word("let y be keep k n ones h ; give y"), "once")

    def test_not_last_for_another_use_on_the_way(self):
        self.assertEqual(self.word("let z be call nought h ; let y be go h x n ; give y"), "once")
        self.assertEqual(self.word("let z be keep k 1 nought h ; let y be go h x n ; give y"), "once")
        self.assertEqual(self.word("if x : let z be call nought h ; let y be go h x n ; give y else "
                                   "let y be go h x n ; give y end"), "once")
        self.assertEqual(self.word("let i be h ; let y be go h x n ; give y"), "often")
        self.assertEqual(self.word("let i be h ; let y be go i x n ; give y"), "often")

    def test_often(self):
        self.assertEqual(self.word("let y be go h x n ; let z be go h y n ; give z"), "often")
        self.assertEqual(self.word("let y be call often h ; give y"), "often")
        self.assertEqual(self.word("let y be call ones h ; let z be go h x n ; give z"), "often")
        self.assertEqual(self.word("let e be empty holds k q ; let r be put h e ; give x"), "often")
        self.assertEqual(self.word("let y be keep l h kept 1 ; give y"), "often")
        self.assertEqual(self.word("if x : let y be go h x n ; give y else let i be h ; give 0 end"), "often")

    def test_not_even_as_the_answer_or_the_note_of_that_go(self):
        program = sound("ask q num to num\nkeeper k note holds k q takes num gives num\nend x n : give x\n"
                        "hears q x h n : let r be put h n ; let y be go h x r ; give y\n"
                        "keeper l note hold l q takes num gives num\nend x n : give x\n"
                        "hears q x h n : let y be go h x h ; give y\n"
                        "keeper m note hold m q takes num gives num\nend x n : give x\n"
                        "hears q x h n : let y be go h x n ; give y\n"
                        "keeper o note hold o q takes num gives num\nend x n : give x\n"
                        "hears q x h n : let y be go n x h ; give y\n")
        self.assertEqual(hold_words(program), {("k", "q"): "often", ("l", "q"): "often", ("m", "q"): "last",
                                               ("o", "q"): "often"})

    def test_of_all_keepers_and_asks_in_order(self):
        self.assertEqual(list(hold_words(RICH).items()), [
            (("k", "q"), "last"), (("k", "r"), "often"), (("store", "s"), "often"), (("store", "q"), "never")])
        self.assertEqual(param_words(RICH), {("held", 0): "one"})
        self.assertEqual(hold_words(((), (), ())), {})


class Promise(unittest.TestCase):
    def test_what_is_told_holds_in_runs(self):
        seen = {}
        for seed in range(400):
            program = made(seed)
            words = hold_words(program)
            walk = Walk(program, "main", args_for(program, seed))
            held = []
            for _ in range(150):
                walk.turn()
            for row in walk.book():
                if row[0] == "ask":
                    held.append(0)
                elif row[0] == "go":
                    held[row[1]] += 1
            if max(held, default=0) > 1:
                self.assertIn("often", words.values())
                seen["twice"] = True
            if "often" not in words.values() and held:
                self.assertLessEqual(max(held), 1)
                seen["no often"] = True
            if set(words.values()) == {"never"} and held:
                self.assertEqual(max(held), 0)
                seen["never"] = True
        self.assertEqual(len(seen), 3)

    def test_programs_made_by_chance(self):
        for seed in range(400):
            program = made(seed)
            self.assertEqual(param_words(program), second_params(program), seed)
            self.assertEqual(hold_words(program), second_holds(program), seed)

    def test_long_and_deep_parts(self):
        body = ("go", "y", "h", "x", "n", ("give", "y"))
        for k in range(2000):
            body = ("if", 0, ("tell", k, ("go", "z", "h", 0, 0, ("give", "z"))), ("tell", k, body))
        program = ((("q", ("num",), ("num",)),), (("k", ("num",), ("num",), ("num",), ("x", "n", ("give", "x")),
                   (("q", "x", "h", "n", body),)),), (("f", (("h", ("hold", "k", "q")),), ("num",), (
                       "let", "x", 1, ("let", "n", 1, body))),))
        self.assertEqual(hold_words(program), {("k", "q"): "last"})
        self.assertEqual(param_words(program), {("f", 0): "one"})


class Apart(unittest.TestCase):
    def test_what_was_told_changed_and_told_again(self):
        program = copy.deepcopy(RICH)
        for tell in (param_words, hold_words):
            first = tell(program)
            self.assertIs(type(first), dict)
            kept = dict(first)
            for key in list(first):
                first[key] = "often"
            first["zz"] = "none"
            self.assertEqual(tell(program), kept)
            self.assertIsNot(tell(program), tell(program))
        self.assertEqual(program, RICH)


if __name__ == "__main__":
    unittest.main()
