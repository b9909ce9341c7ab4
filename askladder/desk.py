"""The desk: rows that ask about a program's text, answered by texts."""

from askladder.asking import asks_of
from askladder.errors import NoRow
from askladder.known import Known
from askladder.often import hold_words
from askladder.reader import read
from askladder.runs import ran
from askladder.sound import look
from askladder.words import is_figures

MOST_STEPS = 600
MOST_THINGS = 40
PLAIN = ("num", "nums")


def number_in(word):
    if not is_figures(word):
        raise NoRow()
    return int(word)


def row_in(word):
    """The row of numbers that the word is."""
    if word == "-":
        return ()
    things = word.split(",")
    if len(things) > MOST_THINGS:
        raise NoRow()
    return tuple([number_in(thing) for thing in things])


def run_in(program, words):
    """The run that the words tell of: (end, steps, book)."""
    known = Known(program)
    if len(words) < 2 or words[0] not in known.functions:
        raise NoRow()
    f, params, gives, body = known.functions[words[0]]
    kinds = [kind[0] for name, kind in params]
    if not all([kind in PLAIN for kind in [*kinds, gives[0]]]) or len(words) != 2 + len(kinds):
        raise NoRow()
    bound = number_in(words[1])
    if bound > MOST_STEPS:
        raise NoRow()
    handed = [number_in(word) if kind == "num" else row_in(word) for kind, word in zip(kinds, words[2:])]
    return ran(program, f, handed, bound)


def worth_text(worth):
    """A number or a row of numbers as answers write it."""
    if isinstance(worth, int):
        return str(worth)
    return ",".join([str(number) for number in worth]) if worth else "-"


def end_text(end):
    if end[0] == "gave":
        return f"gave {worth_text(end[1])}"
    if end[0] == "unheard":
        return f"unheard {end[1]} {worth_text(end[2])}"
    return "dry"


def answer_run(program, words):
    end, steps, book = run_in(program, words)
    told = [str(row[1]) for row in book if row[0] == "tell"]
    answered = f"{end_text(end)} steps {steps}"
    return " ".join([answered, "told", *told]) if told else answered


def answer_book(program, words):
    book = run_in(program, words)[2]
    rows = [" ".join([str(word) for word in row]) for row in book]
    return "; ".join(rows) if rows else "none"


def hear_in(known, words):
    """The keeper and the ask of a hear that is there."""
    if len(words) != 2 or words[0] not in known.keepers or words[1] not in known.heard[words[0]]:
        raise NoRow()
    return (words[0], words[1])


def part_in(program, words):
    """The part that the words tell of; a single one is always a function's name."""
    known = Known(program)
    if len(words) == 1 and words[0] in known.functions:
        return ("def", words[0])
    if len(words) == 2 and words[0] == "end" and words[1] in known.keepers:
        return ("end", words[1])
    if len(words) == 3 and words[0] == "hear":
        return ("hear", *hear_in(known, words[1:]))
    raise NoRow()


def answer_asks(program, words):
    found = asks_of(program)[part_in(program, words)]
    return " ".join(found) if found else "none"


def answer_word(program, words):
    return hold_words(program)[hear_in(Known(program), words)]


ANSWERS = {"run": answer_run, "book": answer_book, "asks": answer_asks, "word": answer_word}


def answer(text, row):
    """What the row asks about the program of the text."""
    program = read(text)
    look(program)
    words = row.split(" ")
    if "" in words or words[0] not in ANSWERS:
        raise NoRow()
    answer_row = ANSWERS[words[0]]
    return answer_row(program, words[1:])
