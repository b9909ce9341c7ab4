"""Reads the body in a row.

Bodies are read and put together without recursion, for they may be nested to any depth.
"""

from askladder.errors import NoText
from askladder.forms import whole_piece

SIGNS = ("+", "-", "*", "<", "=")

# By the first word of a piece that begins with an atom what stands right behind it.
BEHIND_ATOM = {"tell": ";", "if": ":", "case": "none"}


def empty_head(row, x):
    return ("empty", x, row.take_row_kind())


def put_head(row, x):
    return ("put", x, row.take_atom(), row.take_atom())


def last_head(row, x):
    return ("last", x, row.take_atom(), row.take_atom())


def call_head(row, x):
    return ("call", x, row.take_name(), row.take_args())


def ask_head(row, x):
    return ("ask", x, row.take_name(), row.take_atom())


def keep_head(row, x):
    return ("keep", x, row.take_name(), row.take_atom(), row.take_name(), row.take_args())


def go_head(row, x):
    return ("go", x, row.take_atom(), row.take_atom(), row.take_atom())


LET_HEADS = {
    "empty": empty_head, "put": put_head, "last": last_head, "call": call_head,
    "ask": ask_head, "keep": keep_head, "go": go_head,
}


def plain_head(row, x):
    """The head of a let or of a sum."""
    first = row.take_atom()
    if row.peek() not in SIGNS:
        return ("let", x, first)
    return ("sum", x, row.take(), first, row.take_atom())


def let_head(row):
    x = row.take_name()
    row.expect("be")
    if row.peek() in LET_HEADS:
        head_of = LET_HEADS[row.take()]
        head = head_of(row, x)
    else:
        head = plain_head(row, x)
    row.expect(";")
    return head


def read_head(row):
    """The next piece as far as it stands ahead of its first body."""
    word = row.take()
    if word == "let":
        return let_head(row)
    if word == "give":
        return ("give", row.take_atom())
    if word not in BEHIND_ATOM:
        raise NoText(row.number)
    head = (word, row.take_atom())
    row.expect(BEHIND_ATOM[word])
    return head


def second_arm(row, head):
    """The head of an if or a case, with what stands ahead of its second body."""
    if head[0] == "if":
        row.expect("else")
        return head
    row.expect("more")
    whole = (*head, row.take_name(), row.take_name())
    row.expect(":")
    return whole


def another_body(row, heads, arms):
    """Behind a give: True where one more body begins, False where all are read.

    arms has the if and case pieces that aren't closed: (the number of the head, its second body begun).
    """
    while arms:
        at, second = arms.pop()
        if not second:
            heads[at] = second_arm(row, heads[at])
            arms.append((at, True))
            return True
        row.expect("end")
    return False


def joined(heads):
    """The body whose pieces have these heads; made from behind, for a piece needs its bodies whole."""
    bodies = []
    for head in reversed(heads):
        bodies.append(whole_piece(head, bodies))
    return bodies[0]


def read_body(row):
    heads = []
    arms = []
    more = True
    while more:
        head = read_head(row)
        if head[0] in ("if", "case"):
            arms.append((len(heads), False))
        heads.append(head)
        if head[0] == "give":
            more = another_body(row, heads, arms)
    return joined(heads)
