"""Does the piece of the part that runs, on whichever ladder.

A ladder has a method for each way in which a piece moves it: answered, tell, choose, call, keep, ask, go, give.
"""

from askladder.forms import function_of
from askladder.worth import plain_worth


def do_plain(ladder, piece, worths):
    ladder.answered(plain_worth(piece, worths))


def do_tell(ladder, piece, worths):
    ladder.tell(worths[0])


def do_if(ladder, piece, worths):
    ladder.choose(worths[0] == 0, [])


def do_case(ladder, piece, worths):
    row = worths[0]
    ladder.choose(len(row) > 0, [row[0], row[1:]] if len(row) > 0 else [])


def do_call(ladder, piece, worths):
    ladder.call(function_of(piece), worths)


def do_keep(ladder, piece, worths):
    ladder.keep(piece[2], worths[0], function_of(piece), worths[1:])


def do_ask(ladder, piece, worths):
    ladder.ask(piece[2], worths[0])


def do_go(ladder, piece, worths):
    ladder.go(worths[0], worths[1], worths[2])


def do_give(ladder, piece, worths):
    ladder.give(worths[0])


DOINGS = {
    "let": do_plain, "sum": do_plain, "empty": do_plain, "put": do_plain, "last": do_plain,
    "tell": do_tell, "if": do_if, "case": do_case, "call": do_call, "keep": do_keep,
    "ask": do_ask, "go": do_go, "give": do_give,
}


def do_piece(ladder, piece, worths):
    """Does the piece, or its row of code; worths is what its atoms are, from the left."""
    doing = DOINGS[piece[0]]
    doing(ladder, piece, worths)


def plain_args(handed):
    """What is handed to a run, rows as tuples."""
    return [tuple(arg) if isinstance(arg, list) else arg for arg in handed]
