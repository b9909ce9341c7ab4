import copy
import unittest

from askladder.asking import asks_of, way_of
from askladder.reader import read
from askladder.sound import look
from askladder.walk import Walk
from tests.made import args_for, made
from tests.programs import RICH, keeper_named, parts_by_hand, scoped

ASKS = "ask q num to num\nask r num to num\nask s num to num\nask t num to num\n"


def keeper_rows(k, end="give x", /, **hears):
    rows = ["keeper %s note num takes num gives num" % k, "end x n : " + end]
    return "\n".join(rows + ["hears %s x h n : %s" % pair for pair in hears.items()]) + "\n"


def keeps_by(program, k):
    return [(part, n) for part in parts_by_hand(program)
            for n, (piece, _) in enumerate(scoped(program, part)) if piece[0] == "keep" and piece[2] == k]


def asks_by_hand(program):
    """Point 10 word by word: sets that grow from nothing until nothing is missing."""
    scopes = {part: scoped(program, part) for part in parts_by_hand(program)}
    told = {part: set() for part in scopes}

    def of_keep(k, f):
        hears = [hear[0] for hear in keeper_named(program, k)[5]]
        return (told["def", f] - set(hears)).union(told["end", k], *(told["hear", k, q] for q in hears))

    def of_piece(piece, kinds):
        match piece:
            case ("ask", _, q, _, _):
                return {q}
            case ("call", _, f, _, _):
                return told["def", f]
            case ("keep", _, k, _, f, _, _):
                return of_keep(k, f)
            case ("go", _, h, _, _, _):
                keeps = keeps_by(program, kinds[h][1])
                return set().union(*(of_keep(kinds[h][1], scopes[part][n][0][4]) for part, n in keeps))
        return set()

    before = None
    while before != told:
        before = {part: set(asks) for part, asks in told.items()}
        for part, pieces in scopes.items():
            for piece, kinds in pieces:
                told[part] |= of_piece(piece, kinds)
    return {part: sorted(asks) for part, asks in told.items()}


def leads(program, step, following, q):
    """True where the step leads to the one that follows, on a way for the ask q."""
    piece, kinds = scoped(program, step[0])[step[1]]
    match piece:
        case ("call", _, f, _, _):
            return following[0] == ("def", f)
        case ("keep", _, k, _, f, _, _):
            hears = [hear[0] for hear in keeper_named(program, k)[5]]
            parts = [("end", k)] + [("hear", k, heard) for heard in hears]
            return following[0] in parts + ([] if q in hears else [("def", f)])
        case ("go", _, h, _, _, _):
            return following in keeps_by(program, kinds[h][1])
    return False


class Checked(unittest.TestCase):
    def is_way(self, program, part, q, way):
        self.assertIs(type(way), list)
        self.assertTrue(all(type(step) is tuple and len(step) == 2 for step in way))
        self.assertEqual(way[0][0], part)
        self.assertEqual(len(set(way)), len(way), way)
        for step, following in zip(way, way[1:]):
            self.assertTrue(leads(program, step, following, q), (step, following))
        piece, _ = scoped(program, way[-1][0])[way[-1][1]]
        self.assertEqual((piece[0], piece[2]), ("ask", q))

    def ways_are_of(self, program, told):
        """For each part and ask there is a way just where it is told."""
        for part in told:
            for q, _, _ in program[0]:
                way = way_of(program, part, q)
                if q in told[part]:
                    self.is_way(program, part, q, way)
                else:
                    self.assertIsNone(way, (part, q))

    def told(self, text, **functions):
        """Of the functions of the program these asks are told; all is as a second reading tells it."""
        program = read(text)
        self.assertIs(look(program), True)
        told = asks_of(program)
        self.assertEqual({f: "".join(told["def", f]) for f in functions}, functions)
        self.assertEqual(told, asks_by_hand(program))
        self.assertEqual(list(told), parts_by_hand(program))
        self.assertTrue(all(type(asks) is list for asks in told.values()))
        self.ways_are_of(program, told)
        return told


class Told(Checked):
    def test_no_parts(self):
        self.assertEqual(asks_of(((), (), ())), {})
        self.assertEqual(asks_of(read(ASKS[:-1])), {})

    def test_none(self):
        self.told(ASKS + "def f a num to num : tell a ; give a", f="")

    def test_an_ask_anywhere_in_the_part(self):
        self.told(ASKS + "def f a num to num : let x be ask q a ; give x\n"
                  "def g a num to num : tell a ; if a : give 1 else let x be ask r a ; give x end\n"
                  "def i a num to num : if a : let x be ask s a ; give x else give 1 end\n"
                  "def j to num : let e be empty nums ; case e none let x be ask t 1 ; give x more y z : "
                  "let v be ask q 1 ; give v end", f="q", g="r", i="s", j="qt")

    def test_rising_whatever_the_order_of_asking_and_of_the_asks(self):
        self.told("ask z num to num\nask b num to num\nask aa num to num\nask a num to num\ndef f a num to num : "
                  "let x be ask z 1 ; let y be ask aa 1 ; let v be ask b 1 ; let w be ask a 1 ; "
                  "let u be ask z 1 ; give u", f="aaabz")
        told = asks_of(read("ask z num to num\nask b num to num\nask aa num to num\ndef f a num to num : "
                            "let x be ask z 1 ; let y be ask aa 1 ; let v be ask b 1 ; give v"))
        self.assertEqual(told, {("def", "f"): ["aa", "b", "z"]})

    def test_calls(self):
        self.told(ASKS + "def f to num : let x be call g ; give x\ndef g to num : let x be ask q 1 ; "
                  "let y be call i ; give y\ndef i to num : let x be ask s 1 ; give x\n"
                  "def j to num : let x be call k ; give x\ndef k to num : give 1", f="qs", g="qs", i="s", j="", k="")

    def test_calls_round_several_functions(self):
        self.told(ASKS + "def f to num : let x be call g ; give x\ndef g to num : let y be call i ; give y\n"
                  "def i to num : let x be call j ; let y be ask s 1 ; give y\n"
                  "def j to num : let x be call f ; let y be ask q 1 ; give y\n"
                  "def a to num : let x be call a ; give x\ndef b to num : let x be call c ; give x\n"
                  "def c to num : let x be call b ; give x", f="qs", g="qs", i="qs", j="qs", a="", b="", c="")

    def test_a_keep_keeps_what_its_keeper_hears(self):
        self.told(ASKS + keeper_rows("k", q="give 1", s="give 2") + keeper_rows("l")
                  + "def f to num : let x be ask q 1 ; let y be ask r 1 ; let z be ask s 1 ; give y\n"
                  "def g to num : let x be keep k 0 f ; give x\ndef i to num : let x be keep l 0 f ; give x\n"
                  "def j to num : let x be keep l 0 g ; let y be ask q 1 ; give y\n"
                  "def m to num : let x be keep k 0 j ; give x", f="qrs", g="r", i="qrs", j="qr", m="r")

    def test_what_comes_out_of_the_keepers_end_and_hears(self):
        told = self.told(
            ASKS + keeper_rows("k", "let y be ask t x ; give y", q="let y be ask s x ; give y")
            + keeper_rows("l", r="give 1", q="let y be ask r x ; give y")
            + keeper_rows("m", q="let y be ask q x ; give y")
            + "def f to num : give 1\ndef g to num : let x be keep k 0 f ; give x\n"
            "def i to num : let x be keep l 0 f ; give x\ndef j to num : let x be ask q 1 ; give x\n"
            "def o to num : let x be keep m 0 f ; give x\ndef p to num : let x be keep k 0 j ; give x",
            f="", g="st", i="r", j="q", o="q", p="st")
        self.assertEqual(told["end", "k"], ["t"])
        self.assertEqual(told["hear", "k", "q"], ["s"])
        self.assertEqual(told["hear", "l", "r"], [])
        self.assertEqual(told["end", "l"], [])

    def test_a_go_lets_out_what_any_keep_by_its_keeper_does(self):
        told = self.told(
            ASKS + keeper_rows("k", q="let y be go h 1 1 ; give y") + keeper_rows("l", q="let y be go h 1 1 ; give y")
            + "def f to num : let x be ask r 1 ; let y be ask q 1 ; give y\ndef g to num : let x be ask s 1 ; give x\n"
            "def i to num : let x be keep k 0 f ; give x\ndef j to num : let x be keep k 0 g ; give x\n"
            "def m h hold k q to num : let x be go h 1 1 ; give x\n"
            "def o h hold l q to num : let x be go h 1 1 ; give x\n"
            "def p h hold k q to num : give 1",
            f="qr", g="s", i="rs", j="rs", m="rs", o="", p="")
        self.assertEqual(told["hear", "k", "q"], ["r", "s"])
        self.assertEqual(told["hear", "l", "q"], [])

    def test_keeps_in_ends_and_hears_count_for_a_go(self):
        told = self.told(
            ASKS + keeper_rows("k", q="give 1") + keeper_rows("l", "let y be keep k 0 f ; give y")
            + keeper_rows("m", t="let y be keep k 0 g ; give y")
            + "def f to num : let x be ask r 1 ; give x\ndef g to num : let x be ask s 1 ; give x\n"
            "def o h hold k q to num : let x be go h 1 1 ; give x", f="r", g="s", o="rs")
        self.assertEqual(told["end", "l"], ["r"])
        self.assertEqual(told["hear", "m", "t"], ["s"])

    def test_a_keep_in_its_own_hear(self):
        told = self.told(ASKS + keeper_rows("k", q="let y be keep k 0 f ; let z be go h y 1 ; give z")
                         + "def f to num : let x be ask q 1 ; let y be ask r 1 ; give y", f="qr")
        self.assertEqual(told["hear", "k", "q"], ["r"])

    def test_holds_out_of_rows_and_of_names_alike_in_unlike_arms(self):
        self.told(
            ASKS + keeper_rows("k", q="give 1") + keeper_rows("l", r="give 1")
            + "def f to num : let x be ask s 1 ; give x\ndef g to num : let x be ask t 1 ; give x\n"
            "def i to num : let x be keep k 0 f ; let y be keep l 0 g ; give y\n"
            "def m a holds k q to num : case a none give 1 more x y : let z be go x 1 1 ; give z end\n"
            "def o a hold k q b hold l r to num : if 1 : let x be a ; let y be go x 1 1 ; give y else "
            "let x be b ; give 1 end\n"
            "def p a hold k q b hold l r to num : if 1 : let x be a ; give 1 else "
            "let x be b ; let y be go x 1 1 ; give y end\n"
            "def u a hold k q to num : let e be empty holds k q ; let c be put a e ; let b be last c a ; "
            "case b none give 1 more x y : case y none give 1 more v w : let z be go v 1 1 ; give z end end",
            f="s", g="t", i="st", m="s", o="s", p="t", u="s")

    def test_names_of_parts_alike(self):
        told = self.told(
            "ask k num to num\nask q num to num\n" + keeper_rows("k", k="let y be ask q 1 ; give y")
            + keeper_rows("hear", "let y be ask k 1 ; give y")
            + "def k to num : let x be ask k 1 ; give x\ndef hear to num : give 1\ndef q to num : give 1\n"
            "def f to num : let x be keep k 0 k ; give x\ndef g to num : let x be keep hear 0 hear ; give x",
            k="k", hear="", q="", f="q", g="k")
        self.assertEqual(told["hear", "k", "k"], ["q"])
        self.assertEqual(told["end", "hear"], ["k"])

    def test_rich(self):
        told = asks_of(RICH)
        self.assertEqual(told, asks_by_hand(RICH))
        self.assertEqual(told["def", "hear"], ["q", "s"])
        self.assertEqual(told["def", "k"], ["q", "s"])
        self.assertEqual(told["def", "main"], ["s"])
        self.assertEqual(told["hear", "store", "s"], [])
        self.ways_are_of(RICH, told)

    def test_a_long_chain_of_calls(self):
        rows = ["def f%s to num : let x be call f%s ; give x" % (a, b) for a, b in zip("abcdefghijklmno",
                                                                                      "bcdefghijklmnop")]
        program = read("\n".join(["ask q num to num"] + rows + ["def fp to num : let x be ask q 1 ; give x"]))
        self.assertEqual(asks_of(program), {("def", "f" + a): ["q"] for a in "abcdefghijklmnop"})
        self.assertEqual(way_of(program, ("def", "fa"), "q"), [(("def", "f" + a), 0) for a in "abcdefghijklmnop"])

    def test_long_bodies(self):
        body = ("give", 1)
        for k in range(4000):
            body = ("tell", k, body)
        body = ("if", 0, body, ("ask", "x", "q", 1, ("give", 1)))
        program = ((("q", ("num",), ("num",)),), (), (("f", (), ("num",), body),))
        self.assertEqual(asks_of(program), {("def", "f"): ["q"]})
        self.assertEqual(way_of(program, ("def", "f"), "q"), [(("def", "f"), 4002)])

    def test_programs_made_by_chance(self):
        asking = 0
        for seed in range(250):
            program = made(seed)
            told = asks_of(program)
            self.assertEqual(told, asks_by_hand(program))
            self.assertEqual(list(told), parts_by_hand(program))
            self.ways_are_of(program, told)
            asking += sum(map(len, told.values()))
        self.assertGreater(asking, 500)


class Ways(Checked):
    def test_steps_by_hand(self):
        program = read(
            ASKS + keeper_rows("k", "tell x ; let y be ask t x ; give y", q="let y be go h x n ; give y")
            + keeper_rows("l", s="give 1")
            + "def f to num : tell 1 ; tell 2 ; let x be ask r 1 ; let y be ask s 1 ; give y\n"
            "def g a num to num : if a : let x be call f ; give x else let x be keep l 0 f ; give x end\n"
            "def i to num : tell 0 ; let x be keep k 0 g 1 ; give x\n"
            "def j h hold k q to num : let x be go h 1 1 ; give x")
        self.assertIs(look(program), True)
        self.assertEqual(way_of(program, ("def", "f"), "r"), [(("def", "f"), 2)])
        self.assertEqual(way_of(program, ("def", "f"), "s"), [(("def", "f"), 3)])
        self.assertIsNone(way_of(program, ("def", "f"), "q"))
        self.assertEqual(way_of(program, ("def", "g"), "s"), [(("def", "g"), 1), (("def", "f"), 3)])
        self.assertIn(way_of(program, ("def", "g"), "r"),
                      [[(("def", "g"), 1), (("def", "f"), 2)], [(("def", "g"), 3), (("def", "f"), 2)]])
        self.assertEqual(way_of(program, ("def", "i"), "t"), [(("def", "i"), 1), (("end", "k"), 1)])
        self.assertEqual(way_of(program, ("def", "j"), "t"),
                         [(("def", "j"), 0), (("def", "i"), 1), (("end", "k"), 1)])
        self.is_way(program, ("hear", "k", "q"), "s", way_of(program, ("hear", "k", "q"), "s"))
        self.assertEqual(way_of(program, ("hear", "k", "q"), "s")[:3],
                         [(("hear", "k", "q"), 0), (("def", "i"), 1), (("def", "g"), 1)])

    def test_an_ask_that_the_keeper_hears_does_not_come_out_of_what_it_keeps(self):
        program = read(ASKS + keeper_rows("k", q="give 1") + keeper_rows("l", q="let y be ask q 1 ; give y")
                       + "def f to num : let x be ask q 1 ; give x\ndef g to num : let x be keep k 0 f ; give x\n"
                       "def i to num : let x be keep l 0 f ; give x")
        self.assertIsNone(way_of(program, ("def", "g"), "q"))
        self.assertEqual(way_of(program, ("def", "i"), "q"), [(("def", "i"), 0), (("hear", "l", "q"), 0)])

    def test_parts_without_ways(self):
        program = read(ASKS + keeper_rows("k", q="give 1") + "def f to num : let x be call f ; give x\n"
                       "def g h hold k q to num : let x be go h 1 1 ; give x")
        for part in parts_by_hand(program):
            for q in "qrst":
                self.assertIsNone(way_of(program, part, q))

    def test_no_step_twice_round_about(self):
        program = read(
            ASKS + keeper_rows("k", q="let y be go h x n ; let z be call f ; give z", r="let y be call g ; give y")
            + "def f to num : let x be call f ; let y be call g ; give y\n"
            "def g to num : let x be call f ; let y be keep k 0 i ; give y\n"
            "def i to num : let x be call g ; let y be ask s 1 ; let z be ask q 1 ; give z")
        told = asks_of(program)
        self.assertEqual(told, asks_by_hand(program))
        self.ways_are_of(program, told)


class Runs(unittest.TestCase):
    def test_whoever_waits_above_the_hearer_is_told_of_the_ask(self):
        asked = 0
        for seed in range(150):
            program = made(seed)
            told = asks_of(program)
            walk = Walk(program, "main", args_for(program, seed))
            goes = True
            while goes and walk.steps() < 80:
                ladder = walk.ladder()
                _, part, n, _ = ladder[-1]
                piece, _ = scoped(program, part)[n]
                goes = walk.turn()
                if piece[0] == "ask":
                    keeps = [at for at, step in enumerate(ladder) if step[0] == "keep"
                             and piece[2] in [hear[0] for hear in keeper_named(program, step[1])[5]]]
                    for step in ladder[keeps[-1] if keeps else 0:]:
                        if step[0] == "part":
                            self.assertIn(piece[2], told[step[1]])
                            asked += 1
        self.assertGreater(asked, 100)


class Unchanged(Checked):
    def test_lists_and_dicts_are_new_ones(self):
        kept = copy.deepcopy(RICH)
        first = asks_of(RICH)
        again = copy.deepcopy(first)
        for asks in first.values():
            asks.append("zz")
        first.clear()
        self.assertEqual(asks_of(RICH), again)
        way = way_of(RICH, ("def", "main"), "s")
        kept_way = list(way)
        way.reverse()
        way.append("zz")
        self.assertEqual(way_of(RICH, ("def", "main"), "s"), kept_way)
        self.assertEqual(RICH, kept)

    def test_lists_of_two_parts_are_not_one(self):
        program = read(ASKS + "def f to num : let x be ask q 1 ; give x\ndef g to num : let x be call f ; give x\n"
                       "def i to num : give 1\ndef j to num : give 2")
        told = asks_of(program)
        told["def", "f"].append("zz")
        told["def", "i"].append("zz")
        self.assertEqual(told["def", "g"], ["q"])
        self.assertEqual(told["def", "j"], [])


if __name__ == "__main__":
    unittest.main()
