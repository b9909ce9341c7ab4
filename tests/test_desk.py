import unittest

from askladder.asking import asks_of
from askladder.desk import answer
from askladder.errors import AskError, NoProgram, NoRow, NoText
from askladder.often import hold_words
from askladder.reader import read
from askladder.runs import ran
from askladder.writer import shown
from tests.made import args_for, made, made_stacked
from tests.programs import RICH_TEXT

# k's hear of q goes on at last; functions called like words of rows and sorts of parts; one that has holds.
TEXT = "\n".join((
    "ask q num to num",
    "ask r nums to num",
    "ask a num to num",
    "keeper k note num takes num gives num",
    "end x n : tell n ; let y be ask a x ; give x",
    "hears q x h n : let m be n + 1 ; let y be go h x m ; give y",
    "hears a x h n : let y be go h x n ; let z be go h y n ; give z",
    "keeper l note num takes num gives num",
    "end x n : give x",
    "hears r x h n : if n : let y be go h 1 n ; give y else let y be go h 2 n ; let z be y + 1 ; give z end",
    "hears q x h n : give x",
    "def main a num to num : let x be keep l a hear a ; give x",
    "def hear a num to num : let e be empty nums ; let f be put a e ; let x be ask r f ; tell x ; let y be ask q x ; give y",
    "def quiet to num : give 7",
    "def rows a nums b num c nums to nums : case c none tell b ; give a more x y : tell x ; let z be last a x ; give z end",
    "def loud a nums to num : let x be ask r a ; give x",
    "def round to num : let x be call round ; give x",
    "def run a num to num : let x be keep k a quiet ; give x",
    "def held h hold k q to num : let x be go h 1 2 ; give x",
    "def given to holds k q : let e be empty holds k q ; give e",
    "def asks a num to num : give a",
))


class Checked(unittest.TestCase):
    maxDiff = None

    def tells(self, row, expected, text=TEXT):
        told = answer(text, row)
        self.assertEqual(told, expected)
        self.assertIs(type(told), str)

    def refuses(self, *rows, text=TEXT):
        for row in rows:
            with self.assertRaises(NoRow, msg=row) as caught:
                answer(text, row)
            self.assertIsInstance(caught.exception, AskError)


class Runs(Checked):
    def test_ends(self):
        self.tells("run quiet 600", "gave 7 steps 1")
        self.tells("run quiet 1", "gave 7 steps 1")
        self.tells("run quiet 0", "dry steps 0")
        self.tells("run round 17", "dry steps 17")
        self.tells("run round 600", "dry steps 600")
        self.tells("run hear 600 4", "unheard r 4 steps 3")
        self.tells("run loud 600 -", "unheard r - steps 1")
        self.tells("run loud 600 3,0,999999999", "unheard r 3,0,999999999 steps 1")
        self.tells("run asks 5 12", "gave 12 steps 1")

    def test_numbers_told(self):
        self.tells("run main 600 5", "gave 1 steps 11 told 1")
        self.tells("run main 600 0", "gave 3 steps 12 told 2")
        self.tells("run main 3 0", "dry steps 3")
        self.tells("run run 600 3", "unheard a 7 steps 4 told 3")
        self.tells("run rows 600 - 0 -", "gave - steps 3 told 0")

    def test_rows_of_numbers(self):
        self.tells("run rows 600 - 5 -", "gave - steps 3 told 5")
        self.tells("run rows 600 1 5 -", "gave 1 steps 3 told 5")
        self.tells("run rows 600 1,2 5 999999999,4", "gave 1,2,999999999 steps 4 told 999999999")
        self.tells("run rows 600 0,0 5 0", "gave 0,0,0 steps 4 told 0")
        forty = ",".join(map(str, range(40)))
        self.tells("run rows 600 %s 5 -" % forty, "gave %s steps 3 told 5" % forty)
        self.tells("run rows 600 %s 5 7" % forty, "gave %s,7 steps 4 told 7" % forty)

    def test_bounds(self):
        self.tells("run main 6 5", "dry steps 6")
        self.tells("run main 10 5", "dry steps 10 told 1")
        self.tells("run main 11 5", "gave 1 steps 11 told 1")
        self.refuses("run quiet 601", "run quiet 999999999", "run quiet -1", "run quiet 00", "run quiet 06", "run quiet x",
                     "run quiet 1,2", "run quiet -", "run quiet 1000000000", "run quiet +5", "run quiet 5.0")

    def test_words(self):
        self.refuses("run", "run quiet", "run quiet 5 1", "run main 5", "run main 5 1 1", "run rows 5 - 1", "run rows 5 - 1 - -")

    def test_functions(self):
        self.refuses("run zz 5", "run k 5", "run q 5 1", "run end 5 1", "run Main 5 1", "run def main 5 1")

    def test_of_other_kinds(self):
        self.refuses("run held 5 1", "run held 5 -", "run held 5", "run given 5", "book held 5 1", "book given 5")

    def test_numbers_that_are_none(self):
        self.refuses("run main 5 -", "run main 5 01", "run main 5 1000000000", "run main 5 -1", "run main 5 a",
                     "run main 5 1,2", "run main 5 1,", "run main 5 1.0", "run main 5 00")

    def test_rows_that_are_none(self):
        self.refuses("run loud 5 ,", "run loud 5 1,", "run loud 5 ,1", "run loud 5 1,,2", "run loud 5 -,1", "run loud 5 --",
                     "run loud 5 01", "run loud 5 1,02", "run loud 5 1;2", "run loud 5 none", "run loud 5 1000000000",
                     "run loud 5 1,-2", "run loud 5 " + ",".join(["1"] * 41))


class Books(Checked):
    def test_rows(self):
        self.tells("book quiet 600", "none")
        self.tells("book main 600 5", "keep l; ask r 0; go 0; tell 1; ask q 0")
        self.tells("book main 4 5", "keep l; ask r 0")
        self.tells("book main 0 5", "none")
        self.tells("book run 600 3", "keep k; ended k; tell 3")
        self.tells("book rows 600 1,2 5 -", "tell 5")

    def test_refused_as_runs_are(self):
        self.refuses("book", "book quiet", "book quiet 601", "book quiet 5 1", "book main 5 -", "book main 5 01", "book zz 5",
                     "book loud 5 1,,2", "book loud 5 " + ",".join(["1"] * 41), "book main 5", "book main 5 1 2")


class Asks(Checked):
    def test_functions(self):
        self.tells("asks main", "none")
        self.tells("asks quiet", "none")
        self.tells("asks hear", "q r")
        self.tells("asks loud", "r")
        self.tells("asks run", "a")
        self.tells("asks held", "a")
        self.tells("asks asks", "none")

    def test_ends_and_hears(self):
        self.tells("asks end k", "a")
        self.tells("asks end l", "none")
        self.tells("asks hear k q", "a")
        self.tells("asks hear l q", "none")
        self.tells("asks hear l r", "none")

    def test_names_rise(self):
        text = "ask b num to num\nask ab num to num\nask aa num to num\ndef f to num : " \
               "let x be ask b 1 ; let y be ask ab 1 ; let z be ask aa 1 ; give 1"
        self.tells("asks f", "aa ab b", text)

    def test_parts_that_are_not_there(self):
        self.refuses("asks", "asks zz", "asks k", "asks end", "asks end z", "asks end main", "asks end k q", "asks hear k",
                     "asks hear k zz", "asks hear z q", "asks hear k r", "asks hear q k", "asks hear k q q", "asks def main",
                     "asks hear hear", "asks main main", "asks hears k q")

    def test_without_a_function_called_hear(self):
        self.refuses("asks hear", text=TEXT.replace("def hear ", "def ear ").replace("l a hear a", "l a ear a"))


class Words(Checked):
    def test_each(self):
        self.tells("word k q", "last")
        self.tells("word k a", "often")
        self.tells("word l r", "once")
        self.tells("word l q", "never")

    def test_refused(self):
        self.refuses("word", "word k", "word k zz", "word z q", "word k r", "word q k", "word k q q", "word main q",
                     "word hear k q")


class Rows(Checked):
    def test_without_signs_and_blanks(self):
        self.refuses("", " ", "  ", " word k q", "word k q ", "word  k q", "word k  q", "run quiet 5 ", " asks main",
                     "asks  main", "asks main  ", "book quiet  5")

    def test_no_such_word(self):
        self.refuses("walk main 5 1", "Run quiet 5", "runs quiet 5", "main", "q", "ask main", "word,k,q", "end k", "none", "-")

    def test_a_line_feed_is_a_sign_of_its_word(self):
        self.refuses("\n", "word k q\n", "\nword k q", "word\nk q", "word k\nq", "run quiet 5\n", "run quiet\n5", "run\nquiet 5",
                     "run main 5 1\n", "run loud 5 1,\n2", "run loud 5 -\n", "asks main\n", "asks\nmain", "asks end\nk",
                     "asks hear k\nq", "book quiet 5\n", "word k q\nword k q", "word k \n q", "word k q \n")

    def test_the_text_is_refused_first(self):
        unread = TEXT.replace("give 7", "give 07")
        unsound = TEXT.replace("give 7", "give zz")
        for row in ("", "run quiet 5", "walk", "run quiet 601", "asks zz"):
            with self.assertRaises(NoText) as caught:
                answer(unread, row)
            self.assertEqual(caught.exception.row, 13)
            with self.assertRaises(NoProgram) as caught:
                answer(unsound, row)
            self.assertEqual((caught.exception.word, caught.exception.name), ("unknown", "zz"))
            with self.assertRaises(NoText):
                answer(unsound + "\n", row)
        with self.assertRaises(NoText) as caught:
            answer("\n", "asks main")
        self.assertEqual(caught.exception.row, 0)

    def test_the_text_without_signs(self):
        self.refuses("", "asks main", "run main 5", "word k q", "book main 5", text="")

    def test_asked_again(self):
        for row in ("run main 600 5", "book main 600 5", "asks hear", "word k q"):
            self.assertEqual(answer(TEXT, row), answer(TEXT, row))


class AsTheFunctionsTell(Checked):
    def row_told(self, worth):
        return str(worth) if isinstance(worth, int) else ",".join(map(str, worth)) or "-"

    def same(self, program, f, args, bound):
        text = shown(program)
        end, steps, book = ran(program, f, args, bound)
        row = " ".join([f, str(bound), *map(self.row_told, args)])
        expected = " ".join([end[0], *map(self.row_told, end[1:])] if end[0] != "unheard" else
                            ["unheard", end[1], self.row_told(end[2])])
        numbers = [str(told[1]) for told in book if told[0] == "tell"]
        expected += " steps %d" % steps
        self.tells("run " + row, " ".join([expected, "told", *numbers]) if numbers else expected, text)
        self.tells("book " + row, "; ".join(" ".join(map(str, told)) for told in book) or "none", text)

    def test_programs_made_by_chance(self):
        for seed in range(60):
            for make in (made, made_stacked):
                program = make(seed)
                for bound in (0, 9, 80):
                    self.same(program, "main", args_for(program, seed), bound)

    def test_parts_and_words(self):
        for text in (TEXT, RICH_TEXT, *(shown(made(seed)) for seed in range(25))):
            program = read(text)
            for part, asks in asks_of(program).items():
                self.tells("asks " + " ".join(part[1:] if part[0] == "def" else part), " ".join(asks) or "none", text)
            for hear, word in hold_words(program).items():
                self.tells("word " + " ".join(hear), word, text)


if __name__ == "__main__":
    unittest.main()
