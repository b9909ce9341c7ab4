import unittest

from askladder.reader import read
from askladder.runs import ran
from askladder.walk import Walk
from tests.made import args_for, made
from tests.programs import RICH

ROUND = read("def f a num to num : tell a ; let b be a + 1 ; let c be call f b ; give c")


class Runs(unittest.TestCase):
    def test_a_run_that_ends_within_its_bound(self):
        program = read("def f a num b nums to nums : tell a ; let c be put a b ; give c")
        for bound in (3, 4, 600):
            self.assertEqual(ran(program, "f", [4, [5]], bound), (("gave", (4, 5)), 3, [("tell", 4)]))

    def test_a_run_that_goes_on_at_its_bound(self):
        program = read("def f a num to num : tell a ; tell 7 ; give a")
        self.assertEqual(ran(program, "f", (4,), 0), (("dry",), 0, []))
        self.assertEqual(ran(program, "f", (4,), 1), (("dry",), 1, [("tell", 4)]))
        self.assertEqual(ran(program, "f", (4,), 2), (("dry",), 2, [("tell", 4), ("tell", 7)]))
        self.assertEqual(ran(program, "f", (4,), 3), (("gave", 4), 3, [("tell", 4), ("tell", 7)]))

    def test_a_run_that_ends_unheard(self):
        program = read("ask q num to num\ndef f to num : tell 1 ; let x be ask q 5 ; give x")
        self.assertEqual(ran(program, "f", [], 1), (("dry",), 1, [("tell", 1)]))
        self.assertEqual(ran(program, "f", [], 2), (("unheard", "q", 5), 2, [("tell", 1)]))
        self.assertEqual(ran(program, "f", [], 600), (("unheard", "q", 5), 2, [("tell", 1)]))

    def test_a_run_without_end(self):
        end, steps, book = ran(ROUND, "f", [0], 600)
        self.assertEqual((end, steps), (("dry",), 600))
        self.assertEqual(book, [("tell", k) for k in range(200)])

    def test_bounds_about_the_steps_of_a_run(self):
        asked = "ask q num to num\ndef main a num to num : tell a ; let x be ask q a ; give x"
        for program, args in ((RICH, [1]), (RICH, [3]), (read(asked), [5]), (read("def main to num : give 4"), [])):
            end, steps, book = ran(program, "main", args, 10000)
            self.assertIn(end[0], ("gave", "unheard"))
            for bound in {0, 1, steps - 1}:
                told = ran(program, "main", args, bound)
                self.assertEqual(told[:2], (("dry",) if bound < steps else end, bound))
                self.assertEqual(told[2], book[:len(told[2])])
            for bound in (steps, steps + 1):
                self.assertEqual(ran(program, "main", args, bound), (end, steps, book))

    def test_the_same_as_a_walk(self):
        for seed in range(60):
            program = made(seed)
            args = args_for(program, seed)
            for bound in (0, 1, 5, 17, 60):
                walk = Walk(program, "main", args)
                for _ in range(bound):
                    walk.turn()
                self.assertEqual(ran(program, "main", args, bound), (walk.end() or ("dry",), walk.steps(), walk.book()))

    def test_told_again_and_changed(self):
        first = ran(RICH, "main", [3], 600)
        again = ran(RICH, "main", [3], 600)
        self.assertEqual(first, again)
        self.assertIs(type(first), tuple)
        again[2].clear()
        self.assertEqual(ran(RICH, "main", [3], 600), first)

    def test_args_are_not_changed(self):
        row, args = [1, 2], [3]
        args.append(row)
        ran(RICH, "q", args, 600)
        self.assertEqual((args, row), ([3, [1, 2]], [1, 2]))


if __name__ == "__main__":
    unittest.main()
