import copy
import unittest

from askladder.reader import read
from askladder.runs import ran
from askladder.sound import look
from askladder.stairs import Stairs, by_stairs
from askladder.walk import Walk
from tests.drawn import book_drawn
from tests.made import args_for, made, made_stacked, made_tailed
from tests.programs import RICH, keeper_named

ASKS = "ask q num to num\nask r num to num\nask s num to nums\nask t num to num\n"


def sound(text):
    program = read(text)
    look(program)
    return program


def flights_of(ladder):
    """What the flights must be, read off the plain ladder."""
    flights = [(None, [])]
    for step in ladder:
        if step[0] == "keep":
            flights.append((step[1], []))
        else:
            flights[-1][1].append(step[1:3])
    return flights


def hearers_of(program, flights):
    """What the book of hearers must be, read off the flights."""
    return {ask[0]: [number for number, (keeper, _) in enumerate(flights) if keeper is not None and
                     ask[0] in [hear[0] for hear in keeper_named(program, keeper)[5]]] for ask in program[0]}


def told_by(stairs):
    return (stairs.flights(), stairs.hearers(), stairs.steps(), stairs.end(), stairs.book())


def expected_by(program, walk):
    flights = flights_of(walk.ladder())
    return (flights, hearers_of(program, flights), walk.steps(), walk.end(), walk.book())


def part_drawn(part):
    return {"def": "%s", "end": "end %s", "hear": "%s.%s"}[part[0]] % part[1:]


def flights_drawn(stairs):
    """The flights in short, then who is heard by which."""
    flights = " | ".join(" ".join(([] if keeper is None else ["[%s]" % keeper]) +
                                  ["%s@%d" % (part_drawn(part), n) for part, n in parts])
                         for keeper, parts in stairs.flights())
    heard = " ".join("%s=%s" % (q, ",".join(map(str, numbers))) for q, numbers in stairs.hearers().items())
    return "%s -- %s" % (flights, heard)


class Checked(unittest.TestCase):
    maxDiff = None

    def same_as_the_ladder(self, program, f, args, bound=600):
        """Turn by turn; the stairs behind the last."""
        walk, stairs = Walk(program, f, args), Stairs(program, f, args)
        goes = True
        while goes and walk.steps() < bound:
            self.assertEqual(told_by(stairs), expected_by(program, walk))
            goes = walk.turn()
            self.assertIs(stairs.turn(), goes)
        self.assertEqual(told_by(stairs), expected_by(program, walk))
        if not goes:
            self.assertIs(stairs.turn(), False)
            self.assertEqual(told_by(stairs), expected_by(program, walk))
        return stairs

    def turns(self, text, args, *expected):
        program = sound(text)
        self.same_as_the_ladder(program, "main", args)
        stairs = Stairs(program, "main", args)
        rows = [flights_drawn(stairs)]
        while stairs.turn() and stairs.steps() < 100:
            rows.append(flights_drawn(stairs))
        self.assertEqual(rows + ["%s %s" % (stairs.end(), flights_drawn(stairs))], list(expected))


class Turns(Checked):
    def test_ahead_of_the_first(self):
        stairs = Stairs(RICH, "main", [1])
        for _ in range(3):
            self.assertEqual(told_by(stairs), ([(None, [(("def", "main"), 0)])], {"q": [], "r": [], "s": []}, 0, None, []))
        self.assertEqual(Stairs(sound("def f to num : give 0"), "f", []).hearers(), {})

    def test_asks_that_several_hear_and_that_none_does(self):
        self.turns(
            ASKS + "keeper k note num takes num gives num\nend x n : give x\n"
            "hears q x h n : let y be go h x n ; give y\nhears r x h n : give x\n"
            "keeper l note num takes num gives num\nend x n : give x\nhears q x h n : give x\n"
            "keeper m note num takes num gives num\nend x n : give x\n"
            "def main to num : let x be keep k 1 f ; give x\ndef f to num : let x be keep l 2 g ; give x\n"
            "def g to num : let x be keep m 3 i ; give x\ndef i to num : let x be keep k 4 j ; give x\n"
            "def j to num : let x be ask q 5 ; let y be ask r x ; give y",
            [],
            "main@0 -- q= r= s= t=",
            "main@0 | [k] f@0 -- q=1 r=1 s= t=",
            "main@0 | [k] f@0 | [l] g@0 -- q=1,2 r=1 s= t=",
            "main@0 | [k] f@0 | [l] g@0 | [m] i@0 -- q=1,2 r=1 s= t=",
            "main@0 | [k] f@0 | [l] g@0 | [m] i@0 | [k] j@0 -- q=1,2,4 r=1,4 s= t=",
            "main@0 | [k] f@0 | [l] g@0 | [m] i@0 k.q@0 -- q=1,2 r=1 s= t=",
            "main@0 | [k] f@0 | [l] g@0 | [m] i@0 k.q@0 | [k] j@1 -- q=1,2,4 r=1,4 s= t=",
            "main@0 | [k] f@0 | [l] g@0 | [m] i@0 k.q@0 k.r@0 -- q=1,2 r=1 s= t=",
            "main@0 | [k] f@0 | [l] g@0 | [m] i@0 k.q@1 -- q=1,2 r=1 s= t=",
            "main@0 | [k] f@0 | [l] g@0 | [m] i@1 -- q=1,2 r=1 s= t=",
            "main@0 | [k] f@0 | [l] g@0 end m@0 -- q=1,2 r=1 s= t=",
            "main@0 | [k] f@0 | [l] g@1 -- q=1,2 r=1 s= t=",
            "main@0 | [k] f@0 end l@0 -- q=1 r=1 s= t=",
            "main@0 | [k] f@1 -- q=1 r=1 s= t=",
            "main@0 end k@0 -- q= r= s= t=",
            "main@1 -- q= r= s= t=",
            "('gave', 5)  -- q= r= s= t=")

    def test_a_cut_through_several_flights_laid_back_under_others(self):
        self.turns(
            ASKS + "keeper k note num takes num gives holds k q\nend x n : let e be empty holds k q ; give e\n"
            "hears q x h n : let e be empty holds k q ; let r be put h e ; give r\n"
            "keeper l note num takes num gives num\nend x n : give x\n"
            "hears t x h n : give 9\nhears r x h n : give 8\n"
            "def main to num : let r be keep k 1 f ; case r none give 0 more h rest : let x be keep l 5 u h ; give x end\n"
            "def f to num : let x be keep l 2 g ; give x\ndef g to num : let x be ask q 2 ; let y be ask t x ; give y\n"
            "def u h hold k q to num : let y be go h 5 8 ; let z be ask t 1 ; give z", [],
            "main@0 -- q= r= s= t=",
            "main@0 | [k] f@0 -- q=1 r= s= t=",
            "main@0 | [k] f@0 | [l] g@0 -- q=1 r=2 s= t=2",
            "main@0 k.q@0 -- q= r= s= t=",
            "main@0 k.q@1 -- q= r= s= t=",
            "main@0 k.q@2 -- q= r= s= t=",
            "main@1 -- q= r= s= t=",
            "main@3 -- q= r= s= t=",
            "main@3 | [l] u@0 -- q= r=1 s= t=1",
            "main@3 | [l] u@0 | [k] f@0 | [l] g@1 -- q=2 r=1,3 s= t=1,3",
            "main@3 | [l] u@0 | [k] f@0 l.t@0 -- q=2 r=1 s= t=1",
            "main@3 | [l] u@0 | [k] f@1 -- q=2 r=1 s= t=1",
            "main@3 | [l] u@0 end k@0 -- q= r=1 s= t=1",
            "main@3 | [l] u@0 end k@1 -- q= r=1 s= t=1",
            "main@3 | [l] u@1 -- q= r=1 s= t=1",
            "main@3 l.t@0 -- q= r= s= t=",
            "main@4 -- q= r= s= t=",
            "('gave', 9)  -- q= r= s= t=")

    def test_one_keeper_above_itself(self):
        text = (ASKS + "keeper k note num takes num gives num\nend x n : tell n ; give x\n"
                "hears q x h n : if n : let y be ask q x ; let z be go h y 0 ; give z else let y be go h 7 9 ; give y end\n"
                "def main to num : let x be keep k 0 f ; give x\ndef f to num : let x be keep k 1 g ; give x\n"
                "def g to num : let x be keep k 2 i ; give x\ndef i to num : let x be ask q 3 ; tell x ; give x")
        stairs = self.same_as_the_ladder(sound(text), "main", [])
        self.assertEqual(stairs.end(), ("gave", 7))
        self.assertEqual(book_drawn(stairs.book()), "keep k; keep k; keep k; ask q 2; ask q 1; ask q 0; go 2; go 1; go 0; "
                         "tell 7; ended k; tell 0; ended k; tell 0; ended k; tell 9")

    def test_many_flights(self):
        program = sound(ASKS + "keeper k note num takes num gives num\nend x n : give x\n"
                        "hears q x h n : let y be go h x n ; give y\n"
                        "def main a num to num : let x be keep k a main a ; give x")
        stairs = self.same_as_the_ladder(program, "main", [3], 120)
        self.assertEqual(stairs.hearers(), {"q": list(range(1, 121)), "r": [], "s": [], "t": []})
        self.assertEqual(stairs.flights()[1:], [("k", [(("def", "main"), 0)])] * 120)

    def test_rich(self):
        for a in range(4):
            for f, args in (("main", [a]), ("hear", [a]), ("q", [a, [0, a, 2][:a]]), ("store", [a])):
                self.same_as_the_ladder(RICH, f, args)

    def test_programs_made_by_chance(self):
        ends = {}
        for seed in range(200):
            for make in (made, made_tailed, made_stacked):
                program = make(seed)
                stairs = self.same_as_the_ladder(program, "main", args_for(program, seed), 90)
                ends[(stairs.end() or ("dry",))[0]] = True
        self.assertEqual(sorted(ends), ["dry", "gave", "unheard"])


class Ends(Checked):
    def test_behind_giving(self):
        stairs = Stairs(sound(ASKS + "def f a num to num : tell a ; give a"), "f", [3])
        none = {"q": [], "r": [], "s": [], "t": []}
        self.assertIs(stairs.turn(), True)
        self.assertEqual(told_by(stairs), ([(None, [(("def", "f"), 1)])], none, 1, None, [("tell", 3)]))
        self.assertIs(stairs.turn(), False)
        for _ in range(3):
            self.assertEqual(told_by(stairs), ([(None, [])], none, 2, ("gave", 3), [("tell", 3)]))
            self.assertIs(stairs.turn(), False)

    def test_behind_an_ask_that_none_hears(self):
        stairs = Stairs(sound(ASKS + "keeper k note num takes num gives num\nend x n : give x\nhears r x h n : give 1\n"
                              "def f to num : let x be keep k 4 g 6 ; give x\n"
                              "def g a num to num : tell a ; let x be ask q a ; give x"), "f", [])
        self.assertEqual([stairs.turn() for _ in range(3)], [True, True, False])
        flights = [(None, [(("def", "f"), 0)]), ("k", [(("def", "g"), 1)])]
        for _ in range(3):
            self.assertEqual(told_by(stairs), (flights, {"q": [], "r": [1], "s": [], "t": []}, 3, ("unheard", "q", 6),
                                               [("keep", "k"), ("tell", 6)]))
            self.assertIs(stairs.turn(), False)

    def test_an_ask_that_only_keepers_off_the_stairs_heard_is_unheard(self):
        program = sound(ASKS + "keeper k note num takes num gives num\nend x n : let y be ask q x ; give y\n"
                        "hears q x h n : let y be ask q x ; give y\ndef f to num : give 3\n"
                        "def main to num : let x be keep k 4 f ; give x\ndef u to num : let x be keep k 4 v ; give x\n"
                        "def v to num : let x be ask q 2 ; give x")
        self.assertEqual(self.same_as_the_ladder(program, "main", []).end(), ("unheard", "q", 3))
        self.assertEqual(self.same_as_the_ladder(program, "u", []).end(), ("unheard", "q", 2))


class ByStairs(Checked):
    def test_at_every_bound(self):
        for program, args in ((RICH, [1]), (RICH, [3]), *((made_stacked(seed), [seed % 3]) for seed in range(25))):
            bound = -1
            goes = True
            while goes and bound < 80:
                bound += 1
                told = by_stairs(program, "main", args, bound)
                self.assertEqual(told, ran(program, "main", args, bound))
                goes = told[0] == ("dry",) or told[1] == bound

    def test_bounds(self):
        program = sound("def f a num to num : tell a ; tell 7 ; give a")
        self.assertEqual(by_stairs(program, "f", (4,), 0), (("dry",), 0, []))
        self.assertEqual(by_stairs(program, "f", (4,), 2), (("dry",), 2, [("tell", 4), ("tell", 7)]))
        self.assertEqual(by_stairs(program, "f", (4,), 3), (("gave", 4), 3, [("tell", 4), ("tell", 7)]))
        self.assertEqual(by_stairs(program, "f", (4,), 600), (("gave", 4), 3, [("tell", 4), ("tell", 7)]))

    def test_told_again_and_changed(self):
        first = by_stairs(RICH, "main", [3], 600)
        again = by_stairs(RICH, "main", [3], 600)
        self.assertEqual((type(first), first), (tuple, again))
        again[2].clear()
        self.assertEqual(by_stairs(RICH, "main", [3], 600), first)


class Apart(Checked):
    def test_several_stairs_on_the_way_at_once(self):
        programs = [made_stacked(seed) for seed in range(12)] + [RICH, RICH, RICH]
        args = [args_for(program, seed) for seed, program in enumerate(programs)]
        alone = [[] for _ in programs]
        for number, (program, arg) in enumerate(zip(programs, args)):
            stairs = Stairs(program, "main", arg)
            for _ in range(60):
                stairs.turn()
                alone[number].append(told_by(stairs))
        together = [Stairs(program, "main", arg) for program, arg in zip(programs, args)]
        for turn in range(60):
            for number in (range(15) if turn % 2 else range(14, -1, -1)):
                together[number].turn()
                self.assertEqual(told_by(together[number]), alone[number][turn])

    def test_what_was_told_changed_and_told_again(self):
        for program, arg in ((RICH, [1]), (RICH, [3]), *((made_stacked(seed), [2]) for seed in range(8))):
            stairs, other = Stairs(program, "main", arg), Stairs(program, "main", arg)
            goes = True
            while goes and stairs.steps() < 80:
                flights, hearers = stairs.flights(), stairs.hearers()
                for _, parts in flights:
                    parts.append((("def", "zz"), 9))
                    parts.reverse()
                flights.clear()
                for numbers in hearers.values():
                    numbers.append(77)
                hearers.clear()
                stairs.book().append(("tell", 9))
                self.assertEqual(told_by(stairs), told_by(other))
                goes = stairs.turn()
                self.assertIs(other.turn(), goes)
            self.assertEqual(told_by(stairs), told_by(other))

    def test_what_was_told_stays_as_it_was(self):
        stairs = Stairs(RICH, "main", [2])
        told = []
        goes = True
        while goes:
            told.append((told_by(stairs), copy.deepcopy(told_by(stairs))))
            goes = stairs.turn()
        for one, other in told:
            self.assertEqual(one, other)

    def test_each_is_a_new_one(self):
        stairs = Stairs(RICH, "main", [2])
        for _ in range(5):
            stairs.turn()
        for tell in (stairs.flights, stairs.hearers, stairs.book):
            self.assertEqual(tell(), tell())
            self.assertIsNot(tell(), tell())
        self.assertIsNot(stairs.flights()[0][1], stairs.flights()[0][1])
        self.assertIsNot(stairs.hearers()["q"], stairs.hearers()["q"])

    def test_args(self):
        program = sound("def f a nums b num to nums : let c be put b a ; give c")
        for args in ([[1, 2], 3], ([1, 2], 3), [(1, 2), 3], ((1, 2), 3)):
            self.assertEqual(by_stairs(program, "f", args, 9)[0], ("gave", (3, 1, 2)))
        row = [1, 2]
        args = [row, 3]
        stairs = Stairs(program, "f", args)
        row.append(9)
        args.pop()
        stairs.turn()
        stairs.turn()
        self.assertEqual((stairs.end(), args, row), (("gave", (3, 1, 2)), [row], [1, 2, 9]))

    def test_nothing_handed_in_is_changed(self):
        program = copy.deepcopy(RICH)
        args = [3, [1, 0, 2]]
        by_stairs(program, "q", args, 600)
        self.assertEqual((program, args), (RICH, [3, [1, 0, 2]]))

    def test_kinds_of_what_is_told(self):
        stairs = Stairs(RICH, "main", [1])
        while stairs.turn() and stairs.steps() < 300:
            self.assertEqual([type(thing) for thing in told_by(stairs)], [list, dict, int, type(None), list])
            for flight in stairs.flights():
                self.assertEqual([type(thing) for thing in flight], [type(flight[0]), list])
                self.assertTrue(all(type(part) is tuple and type(n) is int for part, n in flight[1]))
            self.assertEqual(list(stairs.hearers()), [ask[0] for ask in RICH[0]])
        self.assertIs(type(stairs.end()), tuple)


if __name__ == "__main__":
    unittest.main()
