import copy
import random
import unittest

from askladder.books import check_book, summed
from askladder.errors import AskError, NoBook
from askladder.machine import by_rows
from askladder.reader import read
from askladder.runs import ran
from askladder.sound import look
from askladder.stairs import by_stairs
from tests.made import args_for, made, made_stacked
from tests.programs import RICH
from tests.second_books import second_check, second_sum

# k hears q and r, l hears q alone, m hears nothing; nobody hears t.
TEXT = ("ask q num to num\nask r num to num\nask t num to num\n"
        "keeper k note num takes num gives num\nend x n : give x\nhears q x h n : give x\nhears r x h n : give x\n"
        "keeper l note num takes num gives num\nend x n : give x\nhears q x h n : give x\n"
        "keeper m note num takes num gives num\nend x n : give x\n"
        "def f to num : give 0")
PROGRAM = read(TEXT)


def rows(text):
    """A book from its short form."""
    return [tuple(int(word) if word.lstrip("-").isdigit() else word for word in row.split()) for row in text.split("; ") if row]


class Checked(unittest.TestCase):
    def lets_by(self, book):
        book = rows(book) if isinstance(book, str) else book
        self.assertIsNone(second_check(PROGRAM, book))
        self.assertIs(check_book(PROGRAM, book), True)

    def refuses(self, book, at):
        book = rows(book) if isinstance(book, str) else book
        self.assertEqual(second_check(PROGRAM, book), at)
        with self.assertRaises(NoBook) as caught:
            check_book(PROGRAM, book)
        self.assertEqual(caught.exception.at, at)
        self.assertIs(type(caught.exception.at), int)
        self.assertIsInstance(caught.exception, AskError)


class Keeps(Checked):
    def test_right(self):
        self.lets_by("")
        self.lets_by("keep k")
        self.lets_by("keep k; keep k; keep l; keep m; keep m")

    def test_of_a_keeper_that_is_not_there(self):
        self.refuses("keep z", 0)
        self.refuses("keep k; keep q", 1)
        self.refuses("keep k; keep l; keep f; keep z", 2)


class Ends(Checked):
    def test_right(self):
        self.lets_by("keep k; ended k")
        self.lets_by("keep k; keep l; ended l; keep m; ended m; ended k; keep k")

    def test_where_none_stands(self):
        self.refuses("ended k", 0)
        self.refuses("keep k; ended k; ended k", 2)
        self.refuses("keep k; ask q 0; ended k", 2)

    def test_of_another_than_the_highest(self):
        self.refuses("keep k; keep l; ended k", 2)
        self.refuses("keep k; ended l", 1)
        self.refuses("keep k; ended z", 1)
        self.refuses("keep k; keep l; ended l; ended l", 3)


class Asks(Checked):
    def test_right(self):
        self.lets_by("keep k; ask q 0")
        self.lets_by("keep k; keep l; ask q 1; ask q 0")
        self.lets_by("keep k; keep l; ask r 0")
        self.lets_by("keep m; keep k; keep m; keep m; ask q 1; ended m")
        self.lets_by("keep k; keep k; keep k; ask r 2; ask r 1; ask r 0; keep l; ask q 0")

    def test_not_heard_by_the_keep_of_the_number(self):
        self.refuses("keep l; ask r 0", 1)
        self.refuses("keep k; keep m; ask q 1", 2)
        self.refuses("keep k; keep l; ask r 1", 2)
        self.refuses("keep k; ask t 0", 1)

    def test_heard_by_one_above(self):
        self.refuses("keep k; keep l; ask q 0", 2)
        self.refuses("keep k; keep m; keep l; keep m; ask q 0", 4)
        self.refuses("keep k; keep k; ask r 0", 2)

    def test_an_ask_that_is_not_there(self):
        self.refuses("keep k; ask z 0", 1)
        self.refuses("ask z 0", 0)
        self.refuses("keep k; ask k 0", 1)

    def test_a_number_beyond_those_that_stand(self):
        self.refuses("ask q 0", 0)
        self.refuses("keep k; ask q 1", 1)
        self.refuses("keep k; ask q 999999999999", 1)
        self.refuses("keep k; keep k; ask q 1; ask q 1", 3)

    def test_a_number_below_0(self):
        self.refuses("keep k; ask q -1", 1)
        self.refuses("keep k; keep l; ask q -1", 2)
        self.refuses("keep l; keep k; ask r -1", 2)
        self.refuses("keep l; keep k; ask r -2", 2)

    def test_all_from_it_on_are_taken_off(self):
        self.refuses("keep k; keep m; ask r 0; ended m", 3)
        self.refuses("keep m; keep k; keep m; ask r 1; ended k", 4)
        self.lets_by("keep m; keep k; keep m; ask r 1; ended m")


class Goes(Checked):
    def test_right(self):
        self.lets_by("keep k; ask q 0; go 0; ended k")
        self.lets_by("keep k; keep l; keep m; ask q 1; go 0; ended m; ended l; ended k")
        self.lets_by("keep k; ask q 0; keep l; ask q 0; go 0; go 1; ended l; ended k")

    def test_again_and_again(self):
        self.lets_by("keep k; keep m; ask q 0; go 0; go 0; go 0; " + "; ".join(["ended m; ended k"] * 3))
        self.refuses("keep k; keep m; ask q 0; go 0; go 0; go 0; " + "; ".join(["ended m; ended k"] * 3) + "; ended m", 12)

    def test_of_a_hold_that_was_not_cut(self):
        self.refuses("go 0", 0)
        self.refuses("keep k; go 0", 1)
        self.refuses("keep k; ask q 0; go 1", 2)
        self.refuses("keep k; ask q 0; go 0; go 0; go 999999999999", 4)

    def test_of_a_number_below_0(self):
        self.refuses("keep k; ask q 0; go -1", 2)
        self.refuses("go -1", 0)

    def test_what_was_put_back_may_be_cut_within_another(self):
        self.lets_by("keep k; ask q 0; keep l; go 0; ask r 1; go 1; ended k; ended l")
        self.lets_by("keep k; ask r 0; keep k; go 0; keep l; ask r 1; go 1; ended l; ended k; go 1; ask q 2; ended k; ended k")

    def test_a_row_put_back_is_not_the_held_one(self):
        self.lets_by("keep k; keep m; ask q 0; go 0; ended m; keep l; go 0; ended m; ended k; ended l; ended k")


class Tells(Checked):
    def test_right(self):
        self.lets_by("tell 0; tell 999999999; keep k; tell 5; ended k; tell 1")

    def test_of_no_number(self):
        self.refuses("tell -1", 0)
        self.refuses("tell 1000000000", 0)
        self.refuses("tell 0; tell -999999999", 1)


class Whole(Checked):
    def test_the_first_row_that_is_not_so(self):
        self.refuses("keep z; keep y; tell -1", 0)
        self.refuses("keep k; tell 1000000000; keep z", 1)
        self.refuses("keep k; ask q 0; go 0; ended k; tell 4; ended k; go 9", 5)

    def test_bodies_are_not_looked_at(self):
        # f does nothing at all, yet a book of it may do anything.
        self.lets_by("keep k; keep l; ask q 1; tell 7; go 0; ended l; go 0; ended l; ended k")

    def test_a_program_without_keepers(self):
        program = read("ask q num to num\ndef f to num : give 0")
        self.assertIs(check_book(program, []), True)
        self.assertIs(check_book(program, [("tell", 0)]), True)
        for row in (("keep", "k"), ("ended", "k"), ("ask", "q", 0), ("go", 0), ("tell", -1)):
            with self.assertRaises(NoBook) as caught:
                check_book(program, [("tell", 5), row])
            self.assertEqual(caught.exception.at, 1)

    def test_a_tower_of_900_keeps(self):
        tower = [("keep", "m")] * 450 + [("keep", "k")] + [("keep", "m")] * 449
        self.lets_by(tower + [("ended", "m")] * 449 + [("ended", "k")] + [("ended", "m")] * 450)
        self.lets_by(tower + [("ask", "r", 450)] + [("ended", "m")] * 450 + [("go", 0)] * 2)
        self.refuses(tower + [("ask", "r", 451)], 900)
        self.assertEqual(summed(PROGRAM, tower + [("ask", "r", 450), ("go", 0), ("go", 0)]),
                         (900, {"k": 1, "l": 0, "m": 0}, [2], [], 1350))

    def test_a_book_of_2000_rows(self):
        book = [("keep", "k")] + [("ask", "q", 0), ("tell", 1), ("go", 0)] * 666 + [("ended", "k")]
        book = [("go", k // 3) if row == ("go", 0) else row for k, row in enumerate(book, -1)]
        self.assertEqual(len(book), 2000)
        self.lets_by(book)
        self.assertEqual(summed(PROGRAM, book), (1, {"k": 666, "l": 0, "m": 0}, [1] * 666, [1] * 666, 1))
        self.refuses(book + [("ended", "k")], 2000)

    def test_runs_by_all_three_ways(self):
        for program, f, args in ((RICH, "main", [1]), (RICH, "main", [3]), (RICH, "q", [2, [0, 2]])):
            for tell in (ran, by_rows, by_stairs):
                book = tell(program, f, args, 600)[2]
                self.assertIs(check_book(program, book), True)
                self.assertEqual(summed(program, book), second_sum(program, book))


class ByChance(unittest.TestCase):
    def books(self):
        for seed in range(120):
            for make in (made, made_stacked):
                program = make(seed)
                yield program, ran(program, "main", args_for(program, seed), 150)[2], random.Random(seed)

    def same(self, program, book):
        """Checked as the second look has it; the number of the row refused, or None."""
        at = second_check(program, book)
        if at is None:
            self.assertIs(check_book(program, book), True)
        else:
            with self.assertRaises(NoBook) as caught:
                check_book(program, book)
            self.assertEqual(caught.exception.at, at)
        return at

    def test_books_of_runs_and_each_of_their_begins(self):
        for program, book, _ in self.books():
            for many in range(len(book) + 1):
                self.assertIs(check_book(program, book[:many]), True)
                self.assertEqual(summed(program, book[:many]), second_sum(program, book[:many]))

    def test_one_row_left_out_doubled_moved_or_exchanged(self):
        refused = {}
        for program, book, chance in self.books():
            for at in range(len(book)):
                other = chance.randrange(len(book))
                row = book[at]
                left = book[:at] + book[at + 1:]
                spoiled = {
                    "left out": left,
                    "doubled": book[:at] + [row] + book[at:],
                    "moved": left[:other] + [row] + left[other:],
                    "exchanged": book[:at] + [book[other]] + book[at + 1:],
                    "a number more": book[:at] + [(*row[:-1], row[-1] + 1 if isinstance(row[-1], int) else "zz")] + book[at + 1:],
                }
                for how, changed in spoiled.items():
                    found = self.same(program, changed)
                    refused[how, found is None] = True
                    if found is None:
                        self.assertEqual(summed(program, changed), second_sum(program, changed))
        self.assertEqual(len(refused), 10)


class Sums(unittest.TestCase):
    def sums(self, book, expected):
        book = rows(book)
        self.assertEqual(summed(PROGRAM, book), expected)
        self.assertEqual(second_sum(PROGRAM, book), expected)

    def test_nothing(self):
        self.sums("", (0, {"k": 0, "l": 0, "m": 0}, [], [], 0))
        self.assertEqual(summed(((), (), ()), []), (0, {}, [], [], 0))

    def test_keeps_put_by_rows_alone(self):
        self.sums("keep k; keep m; ask r 0; go 0; go 0; keep l", (3, {"k": 1, "l": 0, "m": 0}, [2], [], 5))

    def test_all_holds_that_were_cut(self):
        self.sums("keep k; ask q 0; keep l; ask q 0; keep k; ask r 0; go 1; go 1; go 0; go 1",
                  (3, {"k": 2, "l": 1, "m": 0}, [1, 3, 0], [], 4))

    def test_numbers_told_in_order(self):
        self.sums("tell 5; keep k; tell 0; tell 5; ended k; tell 999999999",
                  (1, {"k": 0, "l": 0, "m": 0}, [], [5, 0, 5, 999999999], 1))

    def test_the_most_that_stood_at_once(self):
        self.sums("keep k; keep k; keep m; ended m; ask q 1; keep l; keep l; ended l; ended l",
                  (5, {"k": 1, "l": 0, "m": 0}, [0], [], 3))

    def test_kinds_of_what_is_told(self):
        told = summed(PROGRAM, rows("keep k; ask q 0; go 0; tell 3"))
        self.assertEqual([type(thing) for thing in (told, *told)], [tuple, int, dict, list, list, int])
        self.assertEqual(list(told[1]), ["k", "l", "m"])


class Apart(unittest.TestCase):
    def test_nothing_handed_in_is_changed(self):
        program, book = copy.deepcopy(PROGRAM), rows("keep k; keep m; ask q 0; go 0; go 0; tell 3; ended m")
        kept = list(book)
        check_book(program, book)
        summed(program, book)
        self.assertEqual((program, book), (PROGRAM, kept))

    def test_what_was_told_changed_and_told_again(self):
        book = rows("keep k; keep m; ask q 0; go 0; go 0; tell 3; ended m")
        first = summed(PROGRAM, book)
        told = summed(PROGRAM, book)
        told[1].clear()
        told[2].append(4)
        told[3].clear()
        self.assertEqual(summed(PROGRAM, book), first)
        look(PROGRAM)


if __name__ == "__main__":
    unittest.main()
