import copy
import unittest

from askladder.parts import all_parts, begun_with, body_of, pieces
from askladder.reader import read
from askladder.writer import shown
from tests.made import made
from tests.programs import NUM, NUMS, RICH, RICH_TEXT, begin_of, parts_by_hand, scoped
from tests.texts import EMPTY_PROGRAM, FULL_PROGRAM, NESTINGS, nested

RICH_PARTS = [
    ("end", "k"), ("hear", "k", "q"), ("hear", "k", "r"), ("end", "plain"), ("end", "store"),
    ("hear", "store", "s"), ("hear", "store", "q"), ("def", "hear"), ("def", "q"), ("def", "k"),
    ("def", "store"), ("def", "held"), ("def", "main"),
]


def sorts_in_text(text):
    """The words with which the pieces of a body's text begin: no name is one of them."""
    return [word for word in text.split(" ") if word in ("give", "let", "tell", "if", "case")]


class AllParts(unittest.TestCase):
    def test_rich(self):
        self.assertEqual(all_parts(RICH), RICH_PARTS)

    def test_the_program_without_all(self):
        self.assertEqual(all_parts(EMPTY_PROGRAM), [])

    def test_asks_alone_and_each_sort_alone(self):
        self.assertEqual(all_parts(read("ask q num to num")), [])
        self.assertEqual(all_parts(read("def ends to num : give 1")), [("def", "ends")])
        self.assertEqual(all_parts(read("keeper k note num takes num gives num\nend x n : give x")), [("end", "k")])

    def test_hears_are_told_in_the_keepers_order_not_that_of_asks(self):
        program = read("ask a num to num\nask b num to num\nkeeper z note num takes num gives num\nend x n : give x\n"
                       "hears b x h n : give 1\nhears a x h n : give 2\n"
                       "keeper c note num takes num gives num\nend x n : give x\nhears a x h n : give 3\n"
                       "def z to num : give 4\ndef a to num : give 5")
        self.assertEqual(all_parts(program), [("end", "z"), ("hear", "z", "b"), ("hear", "z", "a"), ("end", "c"),
                                              ("hear", "c", "a"), ("def", "z"), ("def", "a")])

    def test_a_new_list_each_time(self):
        told = all_parts(RICH)
        told.pop()
        told[0] = "changed"
        self.assertEqual(all_parts(RICH), RICH_PARTS)
        self.assertIs(type(all_parts(RICH)), list)


class BodyOf(unittest.TestCase):
    def test_rich_by_the_texts_rows(self):
        rows = [row.split(" : ", 1) for row in RICH_TEXT.split("\n")]
        texts = [row[1] for row in rows if len(row) == 2]
        self.assertEqual(len(texts), len(RICH_PARTS))
        for part, text in zip(RICH_PARTS, texts):
            self.assertEqual(shown(((), (), (("f", (), NUM, body_of(RICH, part)),))), "def f to num : " + text)

    def test_parts_alike_in_name(self):
        program = read("ask k num to num\nkeeper k note num takes num gives num\nend x n : give 1\n"
                       "hears k x h n : give 2\ndef k to num : give 3")
        self.assertEqual(body_of(program, ("end", "k")), ("give", 1))
        self.assertEqual(body_of(program, ("hear", "k", "k")), ("give", 2))
        self.assertEqual(body_of(program, ("def", "k")), ("give", 3))

    def test_one_ask_heard_by_several(self):
        program = read("\n".join(["ask q num to num"] + [
            "keeper %s note num takes num gives num\nend x n : give %d\nhears q x h n : give %d" % (k, at, at + 10)
            for at, k in enumerate("abc")]))
        self.assertEqual([body_of(program, ("hear", k, "q"))[1] for k in "cab"], [12, 10, 11])
        self.assertEqual([body_of(program, ("end", k))[1] for k in "cab"], [2, 0, 1])


class BegunWith(unittest.TestCase):
    def test_rich(self):
        store = ("holds", "store", "s")
        expected = {
            ("end", "k"): [("x", NUM), ("n", NUM)],
            ("hear", "k", "q"): [("x", NUM), ("h", ("hold", "k", "q")), ("n", NUM)],
            ("hear", "k", "r"): [("x", NUMS), ("h", ("hold", "k", "r")), ("n", NUM)],
            ("end", "plain"): [("x", NUM), ("n", NUMS)],
            ("end", "store"): [("x", NUM), ("n", store)],
            ("hear", "store", "s"): [("x", NUM), ("h", ("hold", "store", "s")), ("n", store)],
            ("hear", "store", "q"): [("x", NUM), ("h", ("hold", "store", "q")), ("n", store)],
            ("def", "hear"): [("x", NUM)],
            ("def", "q"): [("a", NUM), ("b", NUMS)],
            ("def", "k"): [],
            ("def", "store"): [("a", NUM)],
            ("def", "held"): [("h", ("hold", "k", "q")), ("g", store)],
            ("def", "main"): [("a", NUM)],
        }
        self.assertEqual({part: begun_with(RICH, part) for part in RICH_PARTS}, expected)

    def test_takes_and_note_are_not_exchanged_nor_asked_and_answered(self):
        program = read("ask q nums to num\nkeeper k note num takes nums gives holds k q\nend one two : give 1\n"
                       "hears q a b c : give 1")
        self.assertEqual(begun_with(program, ("end", "k")), [("one", NUMS), ("two", NUM)])
        self.assertEqual(begun_with(program, ("hear", "k", "q")),
                         [("a", NUMS), ("b", ("hold", "k", "q")), ("c", NUM)])

    def test_a_new_list_each_time(self):
        for part in RICH_PARTS:
            told = begun_with(RICH, part)
            self.assertIs(type(told), list)
            again = list(told)
            told.append(("zz", NUM))
            told[0] = None
            self.assertEqual(begun_with(RICH, part), again)


class Pieces(unittest.TestCase):
    def test_a_give_alone(self):
        self.assertEqual(pieces(("give", 1)), [("give", 1)])

    def test_each_piece_ahead_of_its_bodies(self):
        end = ("give", "z")
        for sort, put in NESTINGS.items():
            body = put(("tell", 8, end))
            expected = {
                "if one": [body, ("tell", 8, end), end, ("give", 1)],
                "if other": [body, ("give", 1), ("tell", 8, end), end],
                "case one": [body, ("tell", 8, end), end, ("give", "x")],
                "case other": [body, ("give", "x"), ("tell", 8, end), end],
            }.get(sort, [body, ("tell", 8, end), end])
            self.assertEqual(pieces(body), expected)

    def test_arms_within_both_arms(self):
        one = ("if", "a", ("give", 1), ("case", "r", ("give", 2), "x", "y", ("give", 3)))
        other = ("case", "r", ("if", "b", ("give", 4), ("give", 5)), "v", "w", ("tell", 6, ("give", 7)))
        body = ("tell", 0, ("if", "c", one, other))
        self.assertEqual(pieces(body), [
            body, ("if", "c", one, other), one, ("give", 1), one[3], ("give", 2), ("give", 3),
            other, other[2], ("give", 4), ("give", 5), ("tell", 6, ("give", 7)), ("give", 7),
        ])

    def test_arms_that_are_alike(self):
        body = ("if", 1, ("give", 2), ("give", 2))
        body = ("if", 0, body, body)
        self.assertEqual(pieces(body), [body, body[2], ("give", 2), ("give", 2), body[3], ("give", 2), ("give", 2)])

    def test_in_the_texts_order(self):
        programs = [RICH, FULL_PROGRAM] + [made(seed) for seed in range(40)]
        for program in programs:
            for part in parts_by_hand(program):
                body = body_of(program, part)
                text = shown(((), (), (("f", (), NUM, body),))).split(" : ", 1)[1]
                sorts = [piece[0] if piece[0] in ("give", "tell", "if", "case") else "let" for piece in pieces(body)]
                self.assertEqual(sorts, sorts_in_text(text))

    def test_against_a_second_reading(self):
        for program in [RICH] + [made(seed) for seed in range(40)]:
            self.assertEqual(all_parts(program), parts_by_hand(program))
            for part in all_parts(program):
                kinds, body = begin_of(program, part)
                self.assertEqual(begun_with(program, part), list(kinds.items()))
                self.assertEqual(body_of(program, part), body)
                self.assertEqual(pieces(body), [piece for piece, _ in scoped(program, part)])

    def test_deep_and_long_bodies(self):
        for sort in NESTINGS:
            many = len(pieces(nested([sort], 5000)))
            self.assertEqual(many, 9999 if sort.split(" ")[0] in ("if", "case") else 5000)
        body = ("give", 0)
        for k in range(11):
            body = ("if", k, body, body)
        self.assertEqual(len(pieces(body)), 2 ** 12 - 1)

    def test_a_new_list_each_time(self):
        body = body_of(RICH, ("def", "q"))
        told = pieces(body)
        self.assertIs(type(told), list)
        again = list(told)
        told.reverse()
        told.pop()
        self.assertEqual(pieces(body), again)


class Unchanged(unittest.TestCase):
    def test_nothing_handed_in_is_changed_and_the_same_is_told_again(self):
        program = copy.deepcopy(RICH)
        first = [(part, begun_with(program, part), body_of(program, part), pieces(body_of(program, part)))
                 for part in all_parts(program)]
        all_parts(FULL_PROGRAM)
        again = [(part, begun_with(program, part), body_of(program, part), pieces(body_of(program, part)))
                 for part in all_parts(program)]
        self.assertEqual(first, again)
        self.assertEqual(program, RICH)


if __name__ == "__main__":
    unittest.main()
