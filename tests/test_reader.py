import unittest

from askladder.errors import NoText
from askladder.reader import read
from askladder.writer import shown
from tests.texts import (
    EMPTY_PROGRAM, FULL_PROGRAM, FULL_ROWS, FULL_TEXT, NESTINGS, NO_NAMES, nested, of_one_body, wrong_row,
)

WORDS = NO_NAMES + ["+", "-", "*", "<", "=", ":", ";", "a", "abcdefgh", "abcdefghi", "0", "1", "999999999",
                    "1000000000", "00", "01", "-1", "A", "a1", "1a", "", ",", "::", "@", "\u00e9", "\u0661", "\t"]
HEAD = "def f to num : "


def answer(text):
    """The number of the row with which the text is refused, or None where a program is read."""
    try:
        read(text)
    except NoText as refusal:
        return refusal.row
    return None


def all_tuples(thing):
    waiting = [thing]
    while waiting:
        item = waiting.pop()
        if type(item) is tuple:
            waiting.extend(item)
        elif type(item) not in (str, int):
            return False
    return True


class Checked(unittest.TestCase):
    def refused(self, text, row):
        with self.assertRaises(NoText) as caught:
            read(text)
        self.assertIs(type(caught.exception.row), int)
        self.assertEqual(caught.exception.row, row, text)

    def same_as_second_reading(self, text):
        """Refused by the same row, or read, and then the text is that of the program read."""
        expected = wrong_row(text)
        if expected is not None:
            self.refused(text, expected)
            return False
        self.assertEqual(shown(read(text)), text)
        return True


class Sound(Checked):
    def test_full_program(self):
        program = read(FULL_TEXT)
        self.assertEqual(program, FULL_PROGRAM)
        self.assertTrue(all_tuples(program))

    def test_the_text_without_signs(self):
        self.assertEqual(read(""), EMPTY_PROGRAM)
        self.assertTrue(all_tuples(read("")))

    def test_each_row_alone(self):
        num, nums, hold, holds = ("num",), ("nums",), ("hold", "k", "q"), ("holds", "k", "q")
        self.assertEqual(read("ask q num to nums"), ((("q", num, nums),), (), ()))
        self.assertEqual(read("ask q hold k q to holds k q"), ((("q", hold, holds),), (), ()))
        keeper = ("k", num, nums, hold, ("x", "n", ("give", "n")), ())
        self.assertEqual(read("keeper k note num takes nums gives hold k q\nend x n : give n"), ((), (keeper,), ()))
        self.assertEqual(read("def f to num : give 1"), of_one_body(("give", 1)))
        self.assertEqual(read("def f a nums b holds k q c num to hold k q : give 1"),
                         ((), (), (("f", (("a", nums), ("b", holds), ("c", num)), hold, ("give", 1)),)))

    def test_hears_go_to_the_keeper_ahead(self):
        rows = ["keeper %s note num takes num gives num\nend x n : give x\n%s" % (k, "\n".join(
            "hears %s x h n : give %d" % (q, at) for at, q in enumerate(asks))) for k, asks in
            (("a", "qrs"), ("b", "r"), ("c", "ss"))]
        keepers = read("\n".join(rows))[1]
        self.assertEqual([keeper[0] for keeper in keepers], ["a", "b", "c"])
        self.assertEqual([[(hear[0], hear[4]) for hear in keeper[5]] for keeper in keepers], [
            [("q", ("give", 0)), ("r", ("give", 1)), ("s", ("give", 2))],
            [("r", ("give", 0))],
            [("s", ("give", 0)), ("s", ("give", 1))],
        ])

    def test_no_soundness_is_asked_for(self):
        for text in (
            "ask q num to num\nask q num to num",
            "def f to num : give x\ndef f to num : give y",
            "def f a num a num to hold k q : let a be call g ; give a",
            HEAD + "let x be put 1 2 ; let x be go 3 4 5 ; case 6 none give 1 more x x : give x end",
            HEAD + "let f be ask f f ; give f",
        ):
            self.assertEqual(shown(read(text)), text)

    def test_numbers(self):
        for number in (0, 1, 9, 10, 100, 123456789, 999999999):
            program = read(HEAD + "give %d" % number)
            self.assertEqual(program, of_one_body(("give", number)))
            self.assertIs(type(program[2][0][3][1]), int)

    def test_names_that_are_words_elsewhere(self):
        for name in ("gave", "sum", "asks", "is", "numss", "no", "len"):
            self.assertEqual(read(HEAD + "give " + name), of_one_body(("give", name)))

    def test_each_nesting(self):
        for sort in NESTINGS:
            for many in (2, 3, 30):
                program = of_one_body(nested([sort], many))
                self.assertEqual(read(shown(program)), program)
        sorts = list(NESTINGS)
        for at in range(len(sorts)):
            program = of_one_body(nested(sorts[at:] + sorts[:at], 30))
            self.assertEqual(read(shown(program)), program)

    def test_both_arms_nested(self):
        body = ("give", 1)
        for k in range(6):
            body = ("case", "r", ("if", k, body, body), "x", "y", body)
        self.assertEqual(read(shown(of_one_body(body))), of_one_body(body))

    def test_more_of_anything_than_bounds_tell(self):
        for sort in NESTINGS:
            text = shown(of_one_body(nested([sort], 5000)))
            self.assertEqual(shown(read(text)), text)
        rows = ["ask q num to num"] * 300
        for k in range(200):
            rows += ["keeper k note num takes num gives num", "end x n : give x"] + ["hears q x h n : give n"] * (k % 9)
        rows += ["def f" + " a num" * 100 + " to num : let x be call f" + " 1" * 100 + " ; give 1"] * 300
        program = read("\n".join(rows))
        self.assertEqual([len(part) for part in program], [300, 200, 300])
        self.assertEqual([len(keeper[5]) for keeper in program[1]], [k % 9 for k in range(200)])
        self.assertEqual(shown(program), "\n".join(rows))

    def test_the_same_again(self):
        text = "".join(FULL_TEXT)
        first = read(text)
        self.assertEqual(answer(FULL_TEXT + "\n"), len(FULL_ROWS))
        self.assertEqual(read(text), first)
        self.assertEqual(text, FULL_TEXT)


class RowOrder(Checked):
    KEEPER = "keeper k note num takes num gives num"
    END = "end x n : give x"
    HEARS = "hears q x h n : give n"
    ASK = "ask q num to num"
    DEF = "def f to num : give 1"

    def test_orders_by_hand(self):
        a, k, e, h, d = self.ASK, self.KEEPER, self.END, self.HEARS, self.DEF
        for rows, expected in (
            ([a, k, e, h, d], None), ([k, e, k, e], None), ([d, d], None), ([a, a, d], None),
            ([e], 0), ([h], 0), ([a, e], 1), ([a, h], 1), ([d, a], 1), ([d, k, e], 1), ([d, e], 1), ([d, h], 1),
            ([k, e, a], 2), ([k, e, e], 2), ([k, h, e], 1), ([k, e, h, e], 3), ([k, e, h, a], 3),
            ([k], 1), ([a, k], 2), ([k, k, e], 1), ([k, d], 1), ([k, a], 1), ([a, k, e, k], 4), ([a, k, e, k, d], 4),
            ([k, ""], 1), ([k, "", e], 1), ([k, "end"], 1),
        ):
            text = "\n".join(rows)
            self.assertEqual(wrong_row(text), expected, text)
            self.assertEqual(answer(text), expected, text)

    def test_all_orders_of_up_to_five_rows(self):
        sorts = [self.ASK, self.KEEPER, self.END, self.HEARS, self.DEF, "", "rest"]
        texts = [[row] for row in sorts]
        for _ in range(4):
            for rows in texts:
                self.same_as_second_reading("\n".join(rows))
            texts = [rows + [row] for rows in texts for row in sorts]

    def test_rows_left_out_doubled_exchanged(self):
        read_ones = 0
        for at in range(len(FULL_ROWS)):
            out = FULL_ROWS[:at] + FULL_ROWS[at + 1:]
            double = FULL_ROWS[:at + 1] + FULL_ROWS[at:]
            read_ones += self.same_as_second_reading("\n".join(out))
            read_ones += self.same_as_second_reading("\n".join(double))
            for to in range(len(out) + 1):
                read_ones += self.same_as_second_reading("\n".join(out[:to] + FULL_ROWS[at:at + 1] + out[to:]))
        self.assertGreater(read_ones, 20)

    def test_rows_without_signs(self):
        self.refused("\n", 0)
        self.refused("\n\n", 0)
        self.refused("\n" + FULL_TEXT, 0)
        self.refused(FULL_TEXT + "\n", len(FULL_ROWS))
        for at in range(len(FULL_ROWS) + 1):
            self.refused("\n".join(FULL_ROWS[:at] + ("",) + FULL_ROWS[at:]), at)

    def test_the_first_of_several_rows_is_told(self):
        self.refused("ask q num to num\nask q num\nask", 1)
        self.refused("def f to num : give\nask q num to num\n\n", 0)
        self.refused("%s\n%s\n%s" % (self.KEEPER, self.END + " end", self.KEEPER), 1)
        self.refused("keeper k note num takes num gives\nend x n : give x", 0)

    def test_keeper_behind_which_no_end_stands(self):
        self.refused(self.KEEPER, 1)
        self.refused("\n".join([self.ASK, self.KEEPER, self.HEARS, self.END]), 2)
        self.refused("\n".join([self.ASK, self.KEEPER, self.END, self.KEEPER, self.DEF, "no row"]), 4)
        self.refused(self.KEEPER + "\n", 1)

    def test_other_partings_of_rows(self):
        for parting in ("\r\n", "\r", "\x0b", "\x0c", "\x85", "\u2028", " \n", "\n ", "\n\n", " "):
            text = self.ASK + parting + self.DEF
            self.same_as_second_reading(text)
            self.assertIsNotNone(answer(text))


class RowWords(Checked):
    def with_row(self, at, row):
        return "\n".join(FULL_ROWS[:at] + (row,) + FULL_ROWS[at + 1:])

    def try_row(self, at, words):
        self.same_as_second_reading(self.with_row(at, " ".join(words)))

    def test_each_word_left_out_doubled_joined(self):
        for at, row in enumerate(FULL_ROWS):
            words = row.split(" ")
            for k in range(len(words)):
                self.try_row(at, words[:k] + words[k + 1:])
                self.try_row(at, words[:k + 1] + words[k:])
                if k + 1 < len(words):
                    self.try_row(at, words[:k] + [words[k] + words[k + 1]] + words[k + 2:])
                    self.try_row(at, words[:k] + [words[k + 1], words[k]] + words[k + 2:])

    def test_each_word_exchanged_or_put_in(self):
        for at, row in enumerate(FULL_ROWS):
            words = row.split(" ")
            for k in range(len(words) + 1):
                for word in WORDS:
                    self.try_row(at, words[:k] + [word] + words[k + 1:])
                    self.try_row(at, words[:k] + [word] + words[k:])

    def test_rows_cut_short(self):
        for at, row in enumerate(FULL_ROWS):
            words = row.split(" ")
            for k in range(1, len(words)):
                self.refused(self.with_row(at, " ".join(words[:k])), at)

    def test_blanks(self):
        for at, row in enumerate(FULL_ROWS):
            self.refused(self.with_row(at, " " + row), at)
            self.refused(self.with_row(at, row + " "), at)
            self.refused(self.with_row(at, " "), at)
            for k, sign in enumerate(row):
                if sign == " ":
                    self.refused(self.with_row(at, row[:k] + " " + row[k:]), at)
                    self.refused(self.with_row(at, row[:k] + "\t" + row[k + 1:]), at)
                    self.same_as_second_reading(self.with_row(at, row[:k] + row[k + 1:]))

    def test_ends_and_words_behind(self):
        for at, row in enumerate(FULL_ROWS):
            for behind in ("end", "give 1", "; give 1", "else give 1 end", "more x y : give 1 end", "0", "a", ":"):
                self.refused(self.with_row(at, row + " " + behind), at)
            if row.endswith(" end"):
                self.refused(self.with_row(at, row[:-4]), at)

    def test_capitals_and_other_signs(self):
        for at, row in enumerate(FULL_ROWS):
            for k in range(len(row)):
                for sign in ("A", "_", "@", "\r", "\u00e9", "\u0663", row[k].upper() + "A"):
                    self.refused(self.with_row(at, row[:k] + sign + row[k + 1:]), at)

    def test_words_that_no_name_is_in_each_place_of_a_name(self):
        forms = (
            "ask {} num to num", "ask q hold {} q to num", "ask q num to holds k {}",
            "keeper {} note num takes num gives num\nend x n : give x",
            "keeper k note hold {} q takes num gives num\nend x n : give x",
            "def {} to num : give 1", "def f {} num to num : give 1",
            HEAD + "let {} be 1 ; give 1", HEAD + "let x be {} ; give 1", HEAD + "let x be {} + 1 ; give 1",
            HEAD + "let x be 1 + {} ; give 1", HEAD + "let x be empty holds {} q ; give 1",
            HEAD + "let x be empty holds k {} ; give 1", HEAD + "let x be put {} r ; give 1",
            HEAD + "let x be put 1 {} ; give 1", HEAD + "let x be last {} 1 ; give 1",
            HEAD + "let x be last r {} ; give 1", HEAD + "let x be call {} 1 ; give 1",
            HEAD + "let x be call f {} ; give 1", HEAD + "let x be call f 1 {} ; give 1",
            HEAD + "let x be ask {} 1 ; give 1", HEAD + "let x be ask q {} ; give 1",
            HEAD + "let x be keep {} 1 f 1 ; give 1", HEAD + "let x be keep k {} f 1 ; give 1",
            HEAD + "let x be keep k 1 {} 1 ; give 1", HEAD + "let x be keep k 1 f {} ; give 1",
            HEAD + "let x be go {} 1 2 ; give 1", HEAD + "let x be go h {} 2 ; give 1",
            HEAD + "let x be go h 1 {} ; give 1", HEAD + "tell {} ; give 1", HEAD + "if {} : give 1 else give 2 end",
            HEAD + "case {} none give 1 more x y : give 2 end", HEAD + "case r none give 1 more {} y : give 2 end",
            HEAD + "case r none give 1 more x {} : give 2 end", HEAD + "give {}",
        )
        for form in forms:
            text = form.format("name")
            self.assertEqual(shown(read(text)), text)
            for word in NO_NAMES + ["", "A", "abcdefghi", "a1", "00", "1234567890"]:
                self.refused(form.format(word), 0)
        for form in ("end {} n : give 1", "end x {} : give 1", "end x n : give 1\nhears {} x h n : give 1",
                     "end x n : give 1\nhears q {} h n : give 1", "end x n : give 1\nhears q x {} n : give 1",
                     "end x n : give 1\nhears q x h {} : give 1"):
            ahead = "keeper k note num takes num gives num\n"
            self.assertIsNone(answer(ahead + form.format("name")))
            for word in NO_NAMES + ["", "A", "abcdefghi", "7"]:
                self.refused(ahead + form.format(word), 1 + form.count("\n"))

    def test_numbers_where_a_name_must_stand(self):
        for body in ("let 1 be 2 ; give 1", "let x be call 1 ; give 1", "let x be ask 1 2 ; give 1",
                     "let x be keep 1 2 f ; give 1", "let x be keep k 2 3 ; give 1",
                     "let x be empty holds 1 q ; give 1", "case r none give 1 more 1 y : give 1 end",
                     "case r none give 1 more x 1 : give 1 end"):
            self.refused(HEAD + body, 0)

    def test_kinds_of_empty(self):
        for kind in ("num", "hold k q", "", "hold", "holds", "holds k", "nums k", "numss", "row"):
            self.refused(HEAD + "let x be empty %s ; give x" % kind, 0)

    def test_signs_of_sums(self):
        for sign in ("/", "%", ">", "<=", "==", "++", "plus", "&", "", "+ -"):
            self.refused(HEAD + "let x be 1 %s 2 ; give x" % sign, 0)

    def test_figures(self):
        for figures in ("00", "01", "1000000000", "-1", "+1", "1.0", "1a", "\u0661", "\u00b2", "1_0"):
            self.refused(HEAD + "give " + figures, 0)


class ManyWords(Checked):
    def test_eighty_words_that_are_right(self):
        for sort in NESTINGS:
            text = shown(of_one_body(nested([sort], 81)))
            self.assertTrue(self.same_as_second_reading(text))

    def test_eighty_words_that_are_not(self):
        for unit in ("let ", "tell ", "if ", "case ", "let x be 1 ; ", "tell 1 ; ", "if a : ", "case r none ",
                     "case r none give 1 more x y : ", "if a : give 1 else ", "let x be ", "if a : give 1 ",
                     "if a : case r none ", "tell 1 ; if a : "):
            many = 80 // sum(word in ("let", "tell", "if", "case") for word in unit.split(" "))
            for behind in ("", "give 1", "give 1 end", "give 1" + " end" * many, "give 1" + " end" * (many + 1),
                           "give 1" + " else give 2 end" * many, "give 1" + " else give 2 end" * (many - 1),
                           "give 1" + " more x y : give 2 end" * many, "give 1" + " else" * many):
                self.same_as_second_reading(HEAD + unit * many + behind)

    def test_ends_too_many_or_too_few(self):
        for sort in ("if one", "if other", "case one", "case other"):
            for many in (2, 3, 30, 81):
                text = shown(of_one_body(nested([sort], many)))
                self.refused(text + " end", 0)
                self.refused(text[:-4], 0)


if __name__ == "__main__":
    unittest.main()
