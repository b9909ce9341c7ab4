import copy
import unittest

from askladder.machine import by_rows
from askladder.often import hold_words
from askladder.reader import read
from askladder.runs import ran
from askladder.sound import look
from tests.drawn import book_drawn
from tests.made import args_for, made, made_stacked, made_tailed
from tests.programs import RICH
from tests.second_machine import second_by_rows

ASKS = "ask q num to num\nask r num to num\nask s num to num\nask t num to num\n"
LAST = "let y be go h x n ; give y"
ONCE = "let y be go h x n ; let z be y + 1 ; give z"
OFTEN = "let y be go h x n ; let z be go h y n ; give z"


def sound(text):
    program = read(text)
    look(program)
    return program


def keeper(k, *hears):
    """A keeper of numbers whose end gives what it is given; hears are texts, an ask ahead."""
    return "".join("%s\n" % row for row in (
        "keeper %s note num takes num gives num" % k, "end x n : give x",
        *("hears %s x h n : %s" % tuple(hear.split(" ", 1)) for hear in hears)))


class Checked(unittest.TestCase):
    maxDiff = None

    def same_at_all_bounds(self, program, f, args, most_steps=600):
        """As the plain ladder at each bound up to one behind the end, as the second machine in all; told last."""
        bound = -1
        goes = True
        while goes and bound < most_steps:
            bound += 1
            told = by_rows(program, f, args, bound)
            self.assertEqual(told[:3], ran(program, f, args, bound), bound)
            goes = told[0] == ("dry",) or told[1] == bound
        self.assertEqual(told, second_by_rows(program, f, args, bound))
        return told

    def tells(self, text, args, end, steps, book, copied, most):
        told = self.same_at_all_bounds(sound(text), "main", args)
        self.assertEqual((told[0], told[1], book_drawn(told[2]), told[3], told[4]), (end, steps, book, copied, most))


class Plain(Checked):
    def test_pieces(self):
        self.tells("def main a num b nums to nums : let c be a ; let d be c * 3 ; tell d ; let e be put d b ; "
                   "let f be last e 2 ; let g be empty nums ; if a : case f none give g more x y : tell x ; give y end "
                   "else give g end", [4, [7, 8]], ("gave", (7, 8, 2)), 10, "tell 12; tell 12", 0, 1)
        self.tells("def main a num b nums to nums : case b none let x be last b a ; give x more x y : give y end",
                   [4, []], ("gave", (4,)), 3, "", 0, 1)

    def test_a_bound_of_0(self):
        program = sound("def main to num : give 4")
        self.assertEqual(by_rows(program, "main", [], 0), (("dry",), 0, [], 0, 0))
        self.assertEqual(by_rows(program, "main", [], 1), (("gave", 4), 1, [], 0, 1))

    def test_a_call_that_waits(self):
        self.tells("def main a num to num : let x be call f a ; let y be x + 1 ; give y\n"
                   "def f a num to num : let x be call g a ; tell x ; give x\ndef g a num to num : give a",
                   [5], ("gave", 6), 7, "tell 5", 0, 3)

    def test_an_ask_that_is_unheard(self):
        self.tells("ask q nums to num\ndef main a nums to num : let x be ask q a ; give x", [[1, 2]],
                   ("unheard", "q", (1, 2)), 1, "", 0, 1)
        self.tells(ASKS + keeper("k", "r " + LAST) + "def main to num : let x be keep k 1 f ; give x\n"
                   "def f to num : tell 3 ; let x be ask q 9 ; give x", [],
                   ("unheard", "q", 9), 3, "keep k; tell 3", 0, 2)

    def test_rich(self):
        for a in range(4):
            for f, args in (("main", [a]), ("hear", [a]), ("q", [a, [0, a, 2][:a]]), ("store", [a])):
                self.same_at_all_bounds(RICH, f, args)


class Passes(Checked):
    def test_calls(self):
        text = ("def main a num to num : let x be call f a ; give x\ndef f a num to num : let x be call g a ; give x\n"
                "def g a num to num : tell a ; give a")
        self.tells(text, [3], ("gave", 3), 6, "tell 3", 0, 1)
        program = sound(text)
        for bound, end in ((3, ("dry",)), (4, ("dry",)), (5, ("dry",)), (6, ("gave", 3)), (7, ("gave", 3))):
            self.assertEqual(by_rows(program, "main", [3], bound), (end, min(bound, 6), [("tell", 3)], 0, 1))

    def test_right_behind_it_the_very_thing(self):
        # None of these is put off the ladder: another thing is given, or not right behind it.
        self.tells("def main a num to num : let x be call f a ; give a\ndef f a num to num : give 1",
                   [3], ("gave", 3), 3, "", 0, 2)
        self.tells("def main a num to num : let x be call f a ; give 1\ndef f a num to num : give 1",
                   [3], ("gave", 1), 3, "", 0, 2)
        self.tells("def main a num to num : let x be call f a ; let y be x ; give y\ndef f a num to num : give 1",
                   [3], ("gave", 1), 4, "", 0, 2)
        self.tells("def main a num to num : let x be call f a ; tell x ; give x\ndef f a num to num : give 1",
                   [3], ("gave", 1), 4, "tell 1", 0, 2)
        self.tells("def main a num to num : let x be call f a ; if x : give x else give x end\n"
                   "def f a num to num : give 1", [3], ("gave", 1), 4, "", 0, 2)

    def test_one_that_counts_several_beneath_a_part_that_waits(self):
        # main waits; f, g and i are off, j gives through three.
        text = ("def main to num : let x be call f ; tell x ; give x\ndef f to num : let x be call g ; give x\n"
                "def g to num : let x be call i ; give x\ndef i to num : let x be call j ; give x\ndef j to num : give 8")
        self.tells(text, [], ("gave", 8), 10, "tell 8", 0, 2)

    def test_a_keep_that_waits_has_one_that_counts_0_beneath(self):
        self.tells(keeper("k") + "def main to num : let x be keep k 5 f ; tell x ; give x\ndef f to num : give 2",
                   [], ("gave", 2), 5, "keep k; ended k; tell 2", 0, 3)

    def test_a_keep_right_behind_which_it_is_given(self):
        self.tells(keeper("k") + "def main to num : let x be keep k 5 f ; give x\ndef f to num : give 2",
                   [], ("gave", 2), 4, "keep k; ended k", 0, 2)
        # Three such keeps one upon another.
        self.tells(keeper("k") + "def main to num : let x be keep k 5 f ; give x\n"
                   "def f to num : let x be keep k 6 g ; give x\ndef g to num : let x be keep k 7 i ; give x\n"
                   "def i to num : give 2", [], ("gave", 2), 10, "keep k; keep k; keep k; ended k; ended k; ended k", 0, 4)

    def test_an_end_that_calls_and_keeps_at_last(self):
        self.tells("keeper k note num takes num gives num\n"
                   "end x n : if n : let m be n - 1 ; let y be keep k m f x ; give y else let y be call f x ; give y end\n"
                   "def main to num : let x be keep k 3 f 1 ; give x\ndef f a num to num : let b be a + 1 ; give b",
                   [], ("gave", 6), 27, "keep k; ended k; keep k; ended k; keep k; ended k; keep k; ended k", 0, 2)

    def test_a_go_right_behind_which_it_is_given(self):
        # The hear isn't last, for one of its ways gives at once; yet its go puts it off.
        text = (ASKS + keeper("k", "q if x : let y be go h x n ; give y else give 7 end") +
                "def main to num : let x be keep k 0 f ; give x\n"
                "def f to num : let a be ask q 3 ; let b be ask q 2 ; let c be a + b ; give c")
        self.assertEqual(hold_words(sound(text)), {("k", "q"): "once"})
        self.tells(text, [], ("gave", 5), 13, "keep k; ask q 0; go 0; ask q 0; go 1; ended k", 0, 2)

    def test_a_call_of_itself_without_end(self):
        program = sound("def main a num to num : let b be a + 1 ; let x be call main b ; give x")
        self.assertEqual(by_rows(program, "main", [0], 600), (("dry",), 600, [], 0, 1))
        self.same_at_all_bounds(program, "main", [0], 40)


class Screens(Checked):
    def test_one(self):
        text = ASKS + keeper("k", "q " + LAST) + ("def main to num : let x be keep k 4 f ; give x\n"
                                                 "def f to num : let a be ask q 3 ; give a")
        self.assertEqual(hold_words(sound(text)), {("k", "q"): "last"})
        # main; keep f; keep f hear; keep f; end; and twice nothing, what is given being passed on.
        self.tells(text, [], ("gave", 3), 7, "keep k; ask q 0; go 0; ended k", 0, 3)

    def test_the_note_becomes_that_of_the_go(self):
        self.tells(ASKS + "keeper k note num takes num gives num\nend x n : tell n ; give x\n"
                   "hears q x h n : tell n ; let m be n + 10 ; let y be go h x m ; give y\n"
                   "def main to num : let x be keep k 1 f ; give x\n"
                   "def f to num : let a be ask q 3 ; let b be ask q a ; give b", [],
                   ("gave", 3), 15, "keep k; ask q 0; tell 1; go 0; ask q 0; tell 11; go 1; ended k; tell 21", 0, 3)

    def test_holds_are_numbered_where_nothing_is_cut(self):
        self.tells(ASKS + keeper("k", "q " + LAST, "r " + ONCE, "s give x") +
                   "def main to num : let x be keep k 1 f ; give x\n"
                   "def f to num : let a be ask q 3 ; let b be ask r a ; let c be ask q 1 ; let d be ask s 6 ; give d",
                   [], ("gave", 7), 14, "keep k; ask q 0; go 0; ask r 0; go 1; ask q 0; go 2; ask s 0", 0, 4)

    ABOVE = "def main to num : let x be keep k 1 u ; give x\ndef u to num : let x be keep l 2 v ; tell x ; give x\n" \
            "def v to num : let x be keep m 3 f ; give x\ndef f to num : let a be ask r 3 ; give a"

    def test_the_hears_asks_are_heard_beneath_the_keep_that_heard(self):
        # All three hear q; it is asked by l's hear of r, so neither m, above, nor l itself hears it.
        self.tells(ASKS + keeper("k", "q tell 1 ; let y be go h x n ; give y") +
                   keeper("l", "q tell 2 ; give x", "r let a be ask q x ; let y be go h a n ; give y") +
                   keeper("m", "q tell 3 ; give x") + self.ABOVE, [], ("gave", 3), 18,
                   "keep k; keep l; keep m; ask r 1; ask q 0; tell 1; go 1; go 0; ended m; ended l; tell 3; ended k", 0, 7)

    def test_an_ask_that_only_hidden_ones_hear_is_unheard(self):
        self.tells(ASKS + keeper("k", "s " + LAST) +
                   keeper("l", "q tell 2 ; give x", "r let a be ask q x ; let y be go h a n ; give y") +
                   keeper("m", "q tell 3 ; give x") + self.ABOVE, [], ("unheard", "q", 3), 5,
                   "keep k; keep l; keep m; ask r 1", 0, 6)

    def test_what_the_hear_calls_and_keeps_asks_beneath_too(self):
        # l's hear keeps by m: that one hears what is asked above it, and all else is hidden down to l.
        self.tells(ASKS + keeper("k", "q tell 1 ; let y be go h x n ; give y") +
                   keeper("l", "q tell 2 ; give x", "r let a be keep m 9 g x ; let b be call g a ; "
                          "let y be go h b n ; give y") +
                   keeper("m", "s tell 3 ; let y be go h x n ; give y") + self.ABOVE +
                   "\ndef g a num to num : let b be ask q a ; let c be ask s b ; give c", [], ("unheard", "s", 3), 19,
                   "keep k; keep l; keep m; ask r 1; keep m; ask q 0; tell 1; go 1; ask s 1; tell 3; go 2; ended m; "
                   "ask q 0; tell 1; go 3", 0, 9)

    def test_hidden_keeps_are_not_counted_above_a_screen(self):
        # Beneath the keep of m that l's hear puts stand k and, hidden, l and m: its number is 1.
        self.tells(ASKS + keeper("k") + keeper("l", "r let a be keep m 9 g x ; let y be go h a n ; give y") +
                   keeper("m", "s give 5") + self.ABOVE + "\ndef g a num to num : let c be ask s a ; give c", [],
                   ("gave", 5), 17,
                   "keep k; keep l; keep m; ask r 1; keep m; ask s 1; go 0; ended m; ended l; tell 5; ended k", 0, 8)

    NESTED = (ASKS + keeper("o", "t %s") + keeper("k", "q let a be ask t x ; let y be go h a n ; give y") +
              keeper("l", "r let a be ask q x ; let y be go h a n ; give y") +
              "def main to num : let x be keep o 0 w ; let z be x + 1 ; give z\n"
              "def w to num : let x be keep k 1 u ; give x\ndef u to num : let x be keep l 2 f ; give x\n"
              "def f to num : let a be ask r 3 ; give a")

    def test_screens_within_what_another_hides(self):
        # What l's hear hides lies in what k's hides, and that in what o's hides: 1 + 4 keeps and parts, 3 hears.
        self.tells(self.NESTED % LAST, [], ("gave", 4), 20,
                   "keep o; keep k; keep l; ask r 2; ask q 1; ask t 0; go 2; go 1; go 0; ended l; ended k; ended o", 0, 8)

    def test_a_cut_that_holds_screens(self):
        # o cuts itself, k, l, f and the two hears: 6 rungs that count, laid back as they are.
        told = self.same_at_all_bounds(sound(self.NESTED % ONCE), "main", [])
        self.assertEqual((told[0], told[3:]), (("gave", 5), (0, 8)))
        # Gone on with twice, they are copied twice.
        told = self.same_at_all_bounds(sound(self.NESTED % OFTEN), "main", [])
        self.assertEqual((told[0], told[3:]), (("gave", 4), (12, 8)))
        self.assertEqual(book_drawn(told[2]), "keep o; keep k; keep l; ask r 2; ask q 1; ask t 0; "
                         "go 2; go 1; go 0; ended l; ended k; ended o; go 2; go 1; go 0; ended l; ended k; ended o")
        told = self.same_at_all_bounds(sound(self.NESTED % "give x"), "main", [])
        self.assertEqual((told[0], told[3:]), (("gave", 4), (0, 7)))

    def test_the_pass_beneath_the_keep_counts_each_last_go(self):
        # Behind each of 20 asks the hear would still have a give to do: 20 steps of the pass, and one of main.
        text = (ASKS + keeper("k", "q " + LAST) + "def main to num : let x be keep k 0 f 20 ; give x\n"
                "def f a num to num : if a : let b be ask q a ; let c be a - 1 ; let d be call f c ; give d "
                "else give 9 end")
        told = self.same_at_all_bounds(sound(text), "main", [])
        self.assertEqual((told[0], told[1], told[3:]), (("gave", 9), 1 + 20 * 5 + 2 + 20 + 1 + 20 + 1, (0, 3)))


class Copies(Checked):
    BODY = ("def main to num : let x be keep k 0 f ; give x\n"
            "def f to num : let a be ask q 3 ; let b be a + 1 ; give b")

    def test_never_gone_on_with(self):
        self.tells(ASKS + keeper("k", "q tell x ; give x") + self.BODY, [], ("gave", 3), 5,
                   "keep k; ask q 0; tell 3", 0, 2)

    def test_once_is_laid_back_as_it_is(self):
        self.tells(ASKS + keeper("k", "q " + ONCE) + self.BODY, [], ("gave", 5), 9,
                   "keep k; ask q 0; go 0; ended k", 0, 3)

    def test_often_is_copied_each_time_the_first_too(self):
        self.tells(ASKS + keeper("k", "q " + OFTEN) + self.BODY, [], ("gave", 5), 12,
                   "keep k; ask q 0; go 0; ended k; go 0; ended k", 4, 3)
        self.tells(ASKS + keeper("k", "q if x : let y be go h x n ; give y else " + OFTEN + " end") + self.BODY, [],
                   ("gave", 4), 9, "keep k; ask q 0; go 0; ended k", 2, 2)

    def test_of_a_cut_of_more(self):
        # keep k, f, g are copied twice; u, which calls at last, is none.
        self.tells(ASKS + keeper("k", "q " + OFTEN) + "def main to num : let x be keep k 0 f ; give x\n"
                   "def f to num : let a be call u ; let b be a + 1 ; give b\n"
                   "def u to num : let a be call g ; give a\ndef g to num : let a be ask q 1 ; tell a ; give a", [],
                   ("gave", 3), 20, "keep k; ask q 0; go 0; tell 1; ended k; go 0; tell 2; ended k", 6, 4)

    MARKED = (ASKS + keeper("l", "r %s") + keeper("k", "q let a be ask r x ; let y be go h a n ; let z be y + a ; give z") +
              "def main to num : let x be keep l 0 g ; give x\ndef g to num : let x be keep k 0 f ; let z be x + 0 ; give z\n"
              "def f to num : let a be ask q 3 ; let b be a * 2 ; give b")

    def test_a_hold_that_lies_in_a_copied_part_is_marked(self):
        # l's cut has keep l, g and k's hear, in which k's hold lies: so that one, of keep k and f, is copied, too.
        book = "keep l; keep k; ask q 1; ask r 0; go 1; go 0; ended k; ended l"
        told = self.same_at_all_bounds(sound(self.MARKED % OFTEN), "main", [])
        self.assertEqual(book_drawn(told[2]), book + "; go 1; go 0; ended k; ended l")
        self.assertEqual((told[0], told[3:]), (("gave", 27), (3 + 2 + 3 + 2, 6)))

    def test_a_hold_that_lies_in_no_copied_part_is_not(self):
        for body, worth in ((ONCE, 10), (LAST, 9)):
            told = self.same_at_all_bounds(sound(self.MARKED % body), "main", [])
            self.assertEqual((told[0], told[3]), (("gave", worth), 0))

    def test_a_mark_stays(self):
        # Copied once alone, in an arm of a hear that might do so often: the hold is marked all the same.
        body = "if x : let y be go h x n ; give y else let y be go h x n ; let z be go h y n ; give z end"
        told = self.same_at_all_bounds(sound(self.MARKED % body), "main", [])
        self.assertEqual((told[0], told[3:]), (("gave", 9), (3 + 2, 5)))

    def test_marked_through_a_hold_that_is_marked(self):
        # o's cut has m's hear, whose hold of keep m, w and k's hear is marked; that copied marks k's.
        text = (ASKS + keeper("o", "t " + OFTEN) +
                keeper("m", "r let a be ask t x ; let y be go h a n ; let z be y + 0 ; give z") +
                keeper("k", "q let a be ask r x ; let y be go h a n ; let z be y + 0 ; give z") +
                "def main to num : let x be keep o 0 v ; let z be x + 0 ; give z\n"
                "def v to num : let x be keep m 0 w ; let z be x + 0 ; give z\n"
                "def w to num : let x be keep k 0 f ; let z be x + 0 ; give z\n"
                "def f to num : let a be ask q 3 ; let b be a + 1 ; give b")
        self.assertEqual(hold_words(sound(text)), {("o", "t"): "often", ("m", "r"): "once", ("k", "q"): "once"})
        # Each time keep o, v, m's hear; keep m, w, k's hear; keep k, f.
        told = self.same_at_all_bounds(sound(text), "main", [])
        self.assertEqual((told[0], told[3]), (("gave", 5), 2 * (3 + 3 + 2)))

    def test_marked_where_it_lies_as_a_param(self):
        # k's hear hands its hold to a function, which asks on: hear and function both have it.
        text = (ASKS + keeper("l", "r " + OFTEN) + keeper("k", "q let y be call later h x ; let z be y + 0 ; give z") +
                "def main to num : let x be keep l 0 g ; let z be x + 0 ; give z\n"
                "def g to num : let x be keep k 0 f ; let z be x + 0 ; give z\n"
                "def f to num : let a be ask q 3 ; let b be a + 1 ; give b\n"
                "def later h hold k q a num to num : let b be ask r a ; let y be go h b 0 ; give y")
        self.assertEqual(hold_words(sound(text)), {("l", "r"): "often", ("k", "q"): "once"})
        told = self.same_at_all_bounds(sound(text), "main", [])
        self.assertEqual((told[0], told[3]), (("gave", 5), 2 * (4 + 2)))

    TWO = "let y be go h 1 n ; let z be go h 2 n ; let s be y + z ; give s"
    AGAIN = "let y be go h x n ; let z be go h x n ; let s be y + z ; give s"

    def test_copies_have_slots_of_their_own(self):
        # While a copy of f in which a is 1 is held by o, another runs in which it is 2.
        text = (ASKS + keeper("o", "t " + self.AGAIN) + keeper("k", "q " + self.TWO) +
                "def main to num : let x be keep o 0 u ; give x\n"
                "def u to num : let x be keep k 0 f ; let z be x + 0 ; give z\n"
                "def f to num : let a be ask q 0 ; let b be ask t a ; tell a ; give b")
        told = self.same_at_all_bounds(sound(text), "main", [])
        self.assertEqual([row[1] for row in told[2] if row[0] == "tell"], [1, 2, 2, 1, 2, 2])

    def test_copies_have_keeps_and_passes_of_their_own(self):
        # l's keep stands within what k and o copy; its note becomes 1 in one copy, 2 in another; g is off all the while.
        text = (ASKS + keeper("o", "t " + self.AGAIN) + keeper("k", "q " + self.TWO) +
                keeper("l", "r let y be go h n x ; give y") +
                "def main to num : let x be keep o 0 u ; give x\n"
                "def u to num : let x be keep k 0 g ; let z be x + 0 ; give z\n"
                "def g to num : let x be call w ; give x\n"
                "def w to num : let x be keep l 9 f ; let z be x + 1 ; give z\n"
                "def f to num : let a be ask q 0 ; let b be ask r a ; let c be ask t a ; let d be ask r 7 ; tell d ; "
                "give c")
        told = self.same_at_all_bounds(sound(text), "main", [])
        self.assertEqual([row[1] for row in told[2] if row[0] == "tell"], [1, 2, 2, 1, 2, 2])

    def test_passes_are_copied_along(self):
        # What f and g would give on lies in the cut, twice each time, and counts in no number.
        self.tells(ASKS + keeper("k", "q " + OFTEN) + "def main to num : let x be keep k 0 f ; give x\n"
                   "def f to num : let a be call g ; give a\ndef g to num : let a be call i ; give a\n"
                   "def i to num : let a be ask q 1 ; tell a ; give a", [],
                   ("gave", 1), 18, "keep k; ask q 0; go 0; tell 1; ended k; go 0; tell 1; ended k", 4, 3)

    def test_under_other_keepers(self):
        # k gives what it holds, as a row, and it is gone on with under l: what it asks then l hears.
        self.tells(
            ASKS + "keeper k note num takes num gives holds k q\nend x n : tell x ; let e be empty holds k q ; give e\n"
            "hears q x h n : let e be empty holds k q ; let r be put h e ; give r\n" + keeper("l", "t " + LAST) +
            "def main to num : let r be keep k 1 f ; case r none give 0 more h rest : let x be keep l 5 goer h ; "
            "let y be keep l 6 goer h ; give y end\ndef f to num : let x be ask q 2 ; let y be ask t x ; give y\n"
            "def goer h hold k q to num : let y be go h 5 8 ; let z be go h 6 9 ; give 3", [],
            ("gave", 3), 45, "keep k; ask q 0; keep l; go 0; ask t 0; go 1; ended k; tell 5; go 0; ask t 0; go 2; "
            "ended k; tell 6; ended l; keep l; go 0; ask t 0; go 3; ended k; tell 5; go 0; ask t 0; go 4; ended k; "
            "tell 6; ended l", 8, 6)

    def test_without_a_hear_of_the_word_often_nothing_is_copied(self):
        seen = 0
        for seed in range(200):
            for make in (made, made_tailed, made_stacked):
                program = make(seed)
                if "often" not in hold_words(program).values():
                    args = args_for(program, seed)
                    end, steps, book, copied, most = by_rows(program, "main", args, 150)
                    self.assertEqual(copied, 0)
                    seen += any(row[0] == "go" for row in book)
        self.assertGreater(seen, 15)


class Rounds(Checked):
    def text(self, hear, body):
        return sound(ASKS + "keeper k note num takes num gives num\nend x n : give n\n"
                     "keeper l note nums takes num gives num\nend x n : give x\n"
                     "hears s x h n : case n none let m be last n x ; let y be go h 1 m ; give y "
                     "more a b : let y be go h a n ; give y end\n"
                     "hears q x h n : %s\n" % hear.replace("@", "nums") +
                     "def main a num to num : let e be empty nums ; let x be keep l e under a ; give x\n"
                     "def under a num to num : let x be keep k 0 f a ; tell x ; give x\n"
                     "def f a num to num : " + body)

    def test_the_ladder_does_not_grow(self):
        for hear, body in (
            (LAST, "if a : let c be a - 1 ; let z be call f c ; give z else give 0 end"),
            (LAST, "if a : let b be ask q a ; let c be a - 1 ; let z be call f c ; give z else give 0 end"),
            (LAST, "if a : let b be ask q a ; let d be ask s b ; let c be a - 1 ; let z be call f c ; give z "
             "else let b be ask q 0 ; give b end"),
            ("if x : let y be go h x n ; give y else let e be empty nums ; let y be go h x e ; give y end",
             "let b be ask q a ; if a : let c be a - 1 ; let z be call f c ; give z else give b end"),
        ):
            program = self.text(hear, body)
            self.assertEqual(len({by_rows(program, "main", [a], 1500)[4] for a in (2, 3, 16, 100)}), 1)
            self.assertEqual(len({by_rows(program, "main", [a], 600)[4] for a in (2, 16, 100)}), 1)
            self.assertEqual(by_rows(program, "main", [100], 1500)[:3], ran(program, "main", [100], 1500))
            self.assertNotEqual(by_rows(program, "main", [100], 1500)[0], ("dry",))
            self.same_at_all_bounds(program, "main", [6])

    def test_from_one_round_on_it_grows_where_the_answer_waits(self):
        program = self.text(LAST, "if a : let b be ask q a ; let c be a - 1 ; let z be call f c ; tell z ; give z "
                            "else give 0 end")
        self.assertEqual([by_rows(program, "main", [a], 600)[4] for a in (2, 16, 60)], [6, 20, 64])


class Whole(Checked):
    def test_programs_made_by_chance(self):
        events, ends = {}, {}
        for seed in range(250):
            for make in (made, made_tailed, made_stacked):
                program = make(seed)
                args = args_for(program, seed)
                for bound in (0, 1, 7, 30, 31, 32, 33, 34, 200):
                    told = by_rows(program, "main", args, bound)
                    self.assertEqual(told[:3], ran(program, "main", args, bound), (make, seed, bound))
                    self.assertEqual(told, second_by_rows(program, "main", args, bound, events), (make, seed, bound))
                ends[told[0][0]] = True
        self.assertEqual(sorted(ends), ["dry", "gave", "unheard"])
        for event in ("heard never", "heard last", "heard once", "heard often", "last go", "laid as it is", "copied",
                      "copied, marked", "mark", "pass step", "pass copied", "off by call", "off by keep", "off by go",
                      "screen in a screen", "screen in a cut", "screen copied", "heard above a screen"):
            self.assertGreater(events.get(event, 0), 50, event)

    def test_programs_made_by_chance_at_every_bound(self):
        for seed in range(40):
            self.same_at_all_bounds(made_stacked(seed), "main", [seed % 3], 90)

    def test_long_and_deep_parts(self):
        body = ("give", "x")
        for k in range(2000):
            body = ("tell", k, body)
        body = ("call", "x", "g", (), body)
        for k in range(2000):
            body = ("if", 0, ("give", k), body)
        program = ((), (), (("f", (), ("num",), body), ("g", (), ("num",), ("give", 3))))
        end, steps, book, copied, most = by_rows(program, "f", [], 10000)
        self.assertEqual((end, steps, len(book), copied, most), (("gave", 3), 4003, 2000, 0, 2))


class Apart(Checked):
    def test_kinds_of_what_is_told(self):
        told = by_rows(RICH, "main", [3], 600)
        self.assertEqual([type(thing) for thing in told], [tuple, int, list, int, int])
        self.assertIs(type(told), tuple)
        self.assertTrue(all(type(row) is tuple for row in told[2]))

    def test_args_are_not_changed_nor_the_program(self):
        program = copy.deepcopy(RICH)
        row = [1, 0, 2]
        args = [3, row]
        by_rows(program, "q", args, 600)
        self.assertEqual((program, args, row), (RICH, [3, [1, 0, 2]], [1, 0, 2]))
        self.assertEqual(by_rows(RICH, "q", (3, (1, 0, 2)), 600), by_rows(RICH, "q", args, 600))

    def test_a_row_handed_in_is_told_as_a_tuple(self):
        program = sound("def main a nums to nums : give a")
        self.assertEqual(by_rows(program, "main", [[1, 2]], 5), (("gave", (1, 2)), 1, [], 0, 1))
        self.assertIs(type(by_rows(program, "main", [[1, 2]], 5)[0][1]), tuple)

    def test_told_again_and_changed(self):
        first = by_rows(RICH, "main", [3], 600)
        again = by_rows(RICH, "main", [3], 600)
        self.assertEqual(first, again)
        self.assertIsNot(first[2], again[2])
        again[2].clear()
        self.assertEqual(by_rows(RICH, "main", [3], 600), first)


if __name__ == "__main__":
    unittest.main()
