import unittest

from askladder.words import is_figures, is_name
from tests.texts import NO_NAMES

LETTERS = "abcdefghijklmnopqrstuvwxyz"
FIGURES = "0123456789"
# Every sign of ASCII, and signs beyond it that other tests for letters and figures let by.
ALL_SIGNS = [chr(n) for n in range(128)] + list("\u00e9\u00df\u00aa\u00b2\u0660\uff11\uff41\u03b1\u2028\x85")


class Names(unittest.TestCase):
    def told(self, text, expected):
        self.assertIs(is_name(text), expected, repr(text))
        self.assertIs(is_name(text), expected, repr(text))

    def test_lengths(self):
        for letter in LETTERS:
            for many in range(1, 9):
                self.told(letter * many, True)
            for many in (9, 10, 100):
                self.told(letter * many, False)
        self.told("", False)
        self.told("abcdefgh", True)
        self.told("abcdefghi", False)

    def test_words_that_no_name_is(self):
        self.assertEqual(len(NO_NAMES), 28)
        for word in NO_NAMES:
            self.told(word, False)

    def test_such_a_word_with_a_letter_more_or_less(self):
        for word in NO_NAMES:
            for at in range(len(word) + 1):
                for letter in LETTERS:
                    longer = word[:at] + letter + word[at:]
                    self.told(longer, longer not in NO_NAMES)
            for at in range(len(word)):
                shorter = word[:at] + word[at + 1:]
                self.told(shorter, shorter != "" and shorter not in NO_NAMES)

    def test_words_of_the_doc_that_are_names(self):
        for word in ("gave", "is", "x", "sum", "asks", "ended", "unheard", "dry", "ends", "gone", "lets", "hear"):
            self.told(word, True)

    def test_other_signs_at_each_place(self):
        for sign in ALL_SIGNS:
            expected = sign in LETTERS
            for text in (sign, sign + "abc", "ab" + sign + "c", "abc" + sign, "abcdefg" + sign, sign + "abcdefg"):
                self.told(text, expected)

    def test_capitals(self):
        for word in NO_NAMES:
            self.told(word.upper(), False)
            self.told(word.capitalize(), False)


class Figures(unittest.TestCase):
    def told(self, text, expected):
        self.assertIs(is_figures(text), expected, repr(text))
        self.assertIs(is_figures(text), expected, repr(text))

    def test_lengths(self):
        for figure in "123456789":
            for many in range(1, 10):
                self.told(figure * many, True)
            for many in (10, 11, 100):
                self.told(figure * many, False)
        self.told("", False)
        self.told("999999999", True)
        self.told("1000000000", False)

    def test_noughts(self):
        self.told("0", True)
        for text in ("00", "01", "000000000", "012345678", "0000000000", "-0", "+0", "0x1", "0 "):
            self.told(text, False)
        for text in ("10", "100000000", "101", "20", "900"):
            self.told(text, True)

    def test_other_signs_at_each_place(self):
        for sign in ALL_SIGNS:
            expected = sign in FIGURES
            for text in ("1" + sign, "12" + sign + "34", "12345678" + sign):
                self.told(text, expected)
            self.told(sign, expected)
            self.told(sign + "23", expected and sign != "0")

    def test_signed_and_parted(self):
        for text in ("-1", "+1", "1_0", "1.0", "1e3", " 1", "1 ", "1\n", "\n1", "one", "a"):
            self.told(text, False)


if __name__ == "__main__":
    unittest.main()
