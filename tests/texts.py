"""What the tests of texts share: programs, and a second reading of the document's row forms.

The second reading reduces a row's innermost bodies by regular expressions until one sign stands for the
whole body, so it has nothing in common with the reader that is tested.
"""

import re

NO_NAMES = (
    "ask keeper def to note takes gives hears let be call keep go give tell if else case none more end "
    "empty put last num nums hold holds"
).split()

NAME = r"(?!(?:%s)(?![a-z]))[a-z]{1,8}(?![^ ])" % "|".join(NO_NAMES)
ATOM = r"(?:%s|(?:0|[1-9][0-9]{0,8})(?![^ ]))" % NAME
ROW_KIND = r"(?:nums|holds %s %s)" % (NAME, NAME)
KIND = r"(?:num|nums|holds? %s %s)" % (NAME, NAME)
BOUND = "(?:%s)" % "|".join([
    ATOM,
    "%s [-+*<=] %s" % (ATOM, ATOM),
    "empty %s" % ROW_KIND,
    "put %s %s" % (ATOM, ATOM),
    "last %s %s" % (ATOM, ATOM),
    "call %s(?: %s)*" % (NAME, ATOM),
    "ask %s %s" % (NAME, ATOM),
    "keep %s %s %s(?: %s)*" % (NAME, ATOM, NAME, ATOM),
    "go %s %s %s" % (ATOM, ATOM, ATOM),
])
WHOLE_BODY = re.compile("(?<![^ ])(?:%s)(?![^ ])" % "|".join([
    "give %s" % ATOM,
    "let %s be %s ; @" % (NAME, BOUND),
    "tell %s ; @" % ATOM,
    "if %s : @ else @ end" % ATOM,
    "case %s none @ more %s %s : @ end" % (ATOM, NAME, NAME),
]))
ROW_FORMS = {
    "ask": "ask %s %s to %s" % (NAME, KIND, KIND),
    "keeper": "keeper %s note %s takes %s gives %s" % (NAME, KIND, KIND, KIND),
    "end": "end %s %s : @" % (NAME, NAME),
    "hears": "hears %s %s %s %s : @" % (NAME, NAME, NAME, NAME),
    "def": "def %s(?: %s %s)* to %s : @" % (NAME, NAME, KIND, KIND),
}
ROW_FORMS = {word: re.compile(form) for word, form in ROW_FORMS.items()}
LETTERS = {"ask": "a", "keeper": "k", "end": "e", "hears": "h", "def": "d"}
BEGUN = re.compile("a*(?:keh*)*(?:k|d*)")


def row_letter(row):
    """A letter for the sort of the row, or ? where it is no row of any form."""
    if "@" in row:
        return "?"
    word = row.split(" ")[0]
    if word not in ROW_FORMS:
        return "?"
    many = 1
    while many:
        row, many = WHOLE_BODY.subn("@", row)
    return LETTERS[word] if ROW_FORMS[word].fullmatch(row) else "?"


def wrong_row(text):
    """The number of the row by which it can't be a text any more, or None where it is one."""
    if text == "":
        return None
    rows = text.split("\n")
    letters = ""
    for number, row in enumerate(rows):
        letters += row_letter(row)
        if not BEGUN.fullmatch(letters):
            return number
    return len(rows) if letters.endswith("k") else None


# A text with every sort of row, kind, piece and atom, and the program that it is, both written by hand.
FULL_ROWS = (
    "ask q num to num",
    "ask rows nums to nums",
    "ask odd hold k q to holds k q",
    "keeper k note num takes nums gives hold k q",
    "end x n : give x",
    "keeper l note holds k q takes num gives num",
    "end x n : tell n ; give 0",
    "hears q x h n : let y be go h x n ; give y",
    "hears rows x h n : let y be go h 7 999999999 ; give y",
    "hears q x h n : give 12",
    "def f to num : give 1",
    "def g a num b nums c hold k q d holds l rows to holds k q : "
    "let e be a ; let s be 5 ; let t be a + 1 ; let u be 0 - a ; let v be t * u ; let w be v < 10 ; "
    "let xx be w = w ; let ea be empty nums ; let eb be empty holds k q ; let pa be put a b ; "
    "let pb be put 3 pa ; let la be last pb a ; let lb be last la 100 ; let m be call f ; "
    "let o be call g a b 0 d ; let p be ask q a ; let r be ask rows 4 ; let sa be keep k a f ; "
    "let sb be keep l 8 g 1 b c d ; let ta be go c a 2 ; tell ta ; tell 90 ; if a : give d else "
    "case b none give 0 more first others : case 9 none if 0 : give d else give d end more i j : give j "
    "end end end",
    "def abcdefgh x num to num : give x",
)
FULL_PROGRAM = (
    (
        ("q", ("num",), ("num",)),
        ("rows", ("nums",), ("nums",)),
        ("odd", ("hold", "k", "q"), ("holds", "k", "q")),
    ),
    (
        ("k", ("num",), ("nums",), ("hold", "k", "q"), ("x", "n", ("give", "x")), ()),
        ("l", ("holds", "k", "q"), ("num",), ("num",), ("x", "n", ("tell", "n", ("give", 0))), (
            ("q", "x", "h", "n", ("go", "y", "h", "x", "n", ("give", "y"))),
            ("rows", "x", "h", "n", ("go", "y", "h", 7, 999999999, ("give", "y"))),
            ("q", "x", "h", "n", ("give", 12)),
        )),
    ),
    (
        ("f", (), ("num",), ("give", 1)),
        (
            "g",
            (("a", ("num",)), ("b", ("nums",)), ("c", ("hold", "k", "q")), ("d", ("holds", "l", "rows"))),
            ("holds", "k", "q"),
            ("let", "e", "a", ("let", "s", 5, ("sum", "t", "+", "a", 1, ("sum", "u", "-", 0, "a",
             ("sum", "v", "*", "t", "u", ("sum", "w", "<", "v", 10, ("sum", "xx", "=", "w", "w",
              ("empty", "ea", ("nums",), ("empty", "eb", ("holds", "k", "q"),
               ("put", "pa", "a", "b", ("put", "pb", 3, "pa", ("last", "la", "pb", "a",
                ("last", "lb", "la", 100, ("call", "m", "f", (), ("call", "o", "g", ("a", "b", 0, "d"),
                 ("ask", "p", "q", "a", ("ask", "r", "rows", 4, ("keep", "sa", "k", "a", "f", (),
                  ("keep", "sb", "l", 8, "g", (1, "b", "c", "d"), ("go", "ta", "c", "a", 2,
                   ("tell", "ta", ("tell", 90, ("if", "a", ("give", "d"),
                    ("case", "b", ("give", 0), "first", "others",
                     ("case", 9, ("if", 0, ("give", "d"), ("give", "d")), "i", "j",
                      ("give", "j")))))))))))))))))))))))))),
        ),
        ("abcdefgh", (("x", ("num",)),), ("num",), ("give", "x")),
    ),
)
FULL_TEXT = "\n".join(FULL_ROWS)
EMPTY_PROGRAM = ((), (), ())


def of_one_body(body):
    """A program with the body alone, in a function."""
    return ((), (), (("f", (), ("num",), body),))


# For each place in which a body stands in a piece, a function that puts the body there.
NESTINGS = {
    "let": lambda body: ("let", "x", "a", body),
    "sum": lambda body: ("sum", "x", "<", 1, "a", body),
    "empty": lambda body: ("empty", "x", ("nums",), body),
    "empty holds": lambda body: ("empty", "x", ("holds", "k", "q"), body),
    "put": lambda body: ("put", "x", "a", "r", body),
    "last": lambda body: ("last", "x", "r", 3, body),
    "call": lambda body: ("call", "x", "f", (1, "a"), body),
    "call without args": lambda body: ("call", "x", "f", (), body),
    "ask": lambda body: ("ask", "x", "q", "a", body),
    "keep": lambda body: ("keep", "x", "k", 0, "f", ("a",), body),
    "keep without args": lambda body: ("keep", "x", "k", "a", "f", (), body),
    "go": lambda body: ("go", "x", "h", "a", "b", body),
    "tell": lambda body: ("tell", "a", body),
    "if one": lambda body: ("if", "a", body, ("give", 1)),
    "if other": lambda body: ("if", 0, ("give", 1), body),
    "case one": lambda body: ("case", "r", body, "x", "y", ("give", "x")),
    "case other": lambda body: ("case", "r", ("give", "x"), "x", "y", body),
}


def nested(sorts, many):
    """A body with so many pieces one below another, of the sorts in turn, and a give."""
    body = ("give", "z")
    for k in range(many - 1):
        body = NESTINGS[sorts[k % len(sorts)]](body)
    return body
