"""The promises over the whole program, of programs made by chance."""

import copy
import unittest

from askladder.asking import asks_of, way_of
from askladder.books import check_book, summed
from askladder.codes import code_of
from askladder.desk import answer
from askladder.machine import by_rows
from askladder.often import hold_words, param_words
from askladder.parts import all_parts
from askladder.reader import read
from askladder.runs import ran
from askladder.sound import look
from askladder.stairs import Stairs, by_stairs
from askladder.walk import Walk
from askladder.writer import shown
from tests.made import args_for, made, made_exchangeable, made_stacked, made_tailed
from tests.programs import RICH, keeper_named

MAKERS = (made, made_tailed, made_stacked, made_exchangeable)


def programs(many):
    for seed in range(many):
        for make in MAKERS:
            program = make(seed)
            yield program, args_for(program, seed)


class Ways(unittest.TestCase):
    def test_all_three_tell_the_same_at_many_bounds(self):
        ends = {}
        for program, args in programs(80):
            for bound in (0, 1, 2, 3, 5, 8, 13, 21, 34, 55, 89, 144):
                told = ran(program, "main", args, bound)
                self.assertEqual(by_rows(program, "main", args, bound)[:3], told)
                self.assertEqual(by_stairs(program, "main", args, bound), told)
                self.assertLessEqual(told[1], bound)
                self.assertTrue(told[0] != ("dry",) or told[1] == bound)
            ends[told[0][0]] = True
        self.assertEqual(len(ends), 3)

    def test_the_book_is_let_by(self):
        for program, args in programs(60):
            for tell in (ran, by_rows, by_stairs):
                book = tell(program, "main", args, 120)[2]
                self.assertIs(check_book(program, book), True)
                kept, heard, gone, told, most = summed(program, book)
                self.assertEqual(told, [row[1] for row in book if row[0] == "tell"])
                self.assertEqual(sum(heard.values()), len(gone))
                self.assertEqual(sum(gone), sum(row[0] == "go" for row in book))

    def test_in_books_the_nearest_hears(self):
        for program, args in programs(60):
            stairs = Stairs(program, "main", args)
            goes = True
            while goes and stairs.steps() < 100:
                ahead, many = stairs.hearers(), len(stairs.book())
                goes = stairs.turn()
                for row in stairs.book()[many:]:
                    if row[0] == "ask":
                        self.assertEqual(row[2], ahead[row[1]][-1] - 1)


class Asks(unittest.TestCase):
    def test_an_ask_that_is_not_told_is_never_left_unheard(self):
        unheard = none = 0
        for program, args in programs(120):
            asks = asks_of(program)["def", "main"]
            none += not asks
            for tell in (ran, by_rows, by_stairs):
                end = tell(program, "main", args, 150)[0]
                if end[0] == "unheard":
                    unheard += 1
                    self.assertIn(end[1], asks)
                    self.assertIsNotNone(way_of(program, ("def", "main"), end[1]))
        self.assertGreater(unheard, 100)
        self.assertGreater(none, 10)

    def asked(self, program, ladder, asks):
        """Where the highest part asks: it and all that wait above the keep that hears are told of that ask."""
        _, part, n, names = ladder[-1]
        q = self.rows[part][n][2]
        for step in reversed(ladder):
            if step[0] == "part":
                self.assertIn(q, asks[step[1]])
            elif q in [hear[0] for hear in keeper_named(program, step[1])[5]]:
                return

    def test_whoever_waits_beneath_the_hearing_keep_is_told_of_the_ask(self):
        many = 0
        for program, args in programs(60):
            asks = asks_of(program)
            self.rows = {part: rows for part, (_, rows) in code_of(program).items()}
            walk = Walk(program, "main", args)
            goes = True
            while goes and walk.steps() < 100:
                ladder = walk.ladder()
                if self.rows[ladder[-1][1]][ladder[-1][2]][0] == "ask":
                    self.asked(program, ladder, asks)
                    many += 1
                goes = walk.turn()
        self.assertGreater(many, 300)


class Holds(unittest.TestCase):
    def test_what_is_told_as_never_gone_on_with_never_is(self):
        seen = {}
        for program, args in programs(120):
            words = hold_words(program)
            for tell in (ran, by_rows, by_stairs):
                held, standing, cut = [], [], []
                for row in tell(program, "main", args, 150)[2]:
                    if row[0] == "keep":
                        standing.append(row[1])
                    elif row[0] == "ended":
                        standing.pop()
                    elif row[0] == "ask":
                        held.append([words[standing[row[2]], row[1]], 0])
                        cut.append(standing[row[2]:])
                        del standing[row[2]:]
                    elif row[0] == "go":
                        held[row[1]][1] += 1
                        standing += cut[row[1]]
                for word, gone in held:
                    seen[word, min(gone, 2)] = True
                    self.assertTrue(word != "never" or gone == 0)
                    self.assertTrue("often" in words.values() or gone < 2)
        self.assertEqual(len(seen), 1 + 3 + 3 + 3)


class Told(unittest.TestCase):
    def test_through_all_that_is_told_of_a_program(self):
        for program, args in [(RICH, [2]), *programs(12)]:
            kept = copy.deepcopy(program)
            text = shown(program)
            self.assertEqual(read(text), program)
            self.assertIs(look(program), True)
            first = [tell(program) for tell in (all_parts, asks_of, code_of, param_words, hold_words)]
            book = ran(program, "main", args, 100)[2]
            row = " ".join(["main", "100", *(str(a) if isinstance(a, int) else ",".join(map(str, a)) or "-" for a in args)])
            told = [answer(text, "run " + row), answer(text, "book " + row), summed(program, book)]
            for thing in [*first, book, *told[2][1:4]]:
                thing.clear()
            self.assertEqual(program, kept)
            again = [tell(program) for tell in (all_parts, asks_of, code_of, param_words, hold_words)]
            self.assertEqual(again, [tell(kept) for tell in (all_parts, asks_of, code_of, param_words, hold_words)])
            self.assertEqual([answer(text, "run " + row), answer(text, "book " + row)], told[:2])
            self.assertIs(check_book(program, ran(program, "main", args, 100)[2]), True)


if __name__ == "__main__":
    unittest.main()
