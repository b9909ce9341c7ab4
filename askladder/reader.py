"""Reads a program from its text."""

from askladder.body_reader import read_body
from askladder.errors import NoText
from askladder.row_words import RowWords

# By the first word of a row those of the rows that may stand right behind it; "" is ahead of all rows.
FOLLOWERS = {
    "": ("ask", "keeper", "def"),
    "ask": ("ask", "keeper", "def"),
    "keeper": ("end",),
    "end": ("hears", "keeper", "def"),
    "hears": ("hears", "keeper", "def"),
    "def": ("def",),
}


def read_ask(row):
    q = row.take_name()
    asked = row.take_kind()
    row.expect("to")
    return (q, asked, row.take_kind())


def read_keeper(row):
    name = row.take_name()
    row.expect("note")
    note = row.take_kind()
    row.expect("takes")
    takes = row.take_kind()
    row.expect("gives")
    return (name, note, takes, row.take_kind())


def read_end(row):
    x = row.take_name()
    n = row.take_name()
    row.expect(":")
    return (x, n, read_body(row))


def read_hear(row):
    names = (row.take_name(), row.take_name(), row.take_name(), row.take_name())
    row.expect(":")
    return (*names, read_body(row))


def read_function(row):
    f = row.take_name()
    params = []
    while row.peek() != "to":
        params.append((row.take_name(), row.take_kind()))
    row.expect("to")
    kind = row.take_kind()
    row.expect(":")
    return (f, tuple(params), kind, read_body(row))


ROW_READERS = {
    "ask": read_ask, "keeper": read_keeper, "end": read_end, "hears": read_hear, "def": read_function,
}


def read_row(row, before):
    """The row's first word and what the row tells; before is the first word of the row ahead."""
    word = row.take()
    if word not in FOLLOWERS[before]:
        raise NoText(row.number)
    read_rest = ROW_READERS[word]
    told = read_rest(row)
    row.finish()
    return word, told


def read_rows(rows):
    """A list of (first word, what the row tells)."""
    found = []
    before = ""
    for number, text in enumerate(rows):
        before, told = read_row(RowWords(number, text), before)
        found.append((before, told))
    if before == "keeper":
        raise NoText(len(rows))
    return found


def keepers_of(found):
    """The keepers, each with its end and its hears, which stand behind it."""
    heads = [told for word, told in found if word == "keeper"]
    ends = [told for word, told in found if word == "end"]
    hears = []
    for word, told in found:
        if word == "keeper":
            hears.append([])
        elif word == "hears":
            hears[-1].append(told)
    return tuple([(*head, end, tuple(heard)) for head, end, heard in zip(heads, ends, hears)])


def read(text):
    """The program whose text it is; what is no text is refused with NoText."""
    # The text without signs has no rows at all, where split would tell of one.
    found = read_rows(text.split("\n")) if text else []
    asks = tuple([told for word, told in found if word == "ask"])
    functions = tuple([told for word, told in found if word == "def"])
    return (asks, keepers_of(found), functions)
