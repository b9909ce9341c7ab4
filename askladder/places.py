"""The pieces of a program by their places, and the program with another piece in a place."""

from askladder.errors import NoTurn
from askladder.forms import bodies_of
from askladder.parts import all_parts, body_of, pieces


def piece_at(program, part, n):
    """Piece n of the part; NoTurn where there is no such part or piece."""
    if part not in all_parts(program):
        raise NoTurn()
    found = pieces(body_of(program, part))
    if not 0 <= n < len(found):
        raise NoTurn()
    return found[n]


def ways_down(body):
    """A list of (piece, number of the one right above it, which of that one's bodies it begins), in order."""
    found = []
    waiting = [(body, None, 0)]
    while waiting:
        piece, above, which = waiting.pop()
        below = bodies_of(piece)
        for k in range(len(below) - 1, -1, -1):
            waiting.append((below[k], len(found), k))
        found.append((piece, above, which))
    return found


def with_body_below(piece, which, body):
    """The piece with this body in the place of its first or second one."""
    if piece[0] == "if" and which == 0:
        return (*piece[:2], body, piece[3])
    if piece[0] == "case" and which == 0:
        return (*piece[:2], body, *piece[3:])
    return (*piece[:-1], body)


def body_with(body, n, piece):
    """The body with this piece, and what is beneath it, in the place of its piece n and what is beneath that."""
    found = ways_down(body)
    _, above, which = found[n]
    while above is not None:
        over, higher, over_which = found[above]
        piece = with_body_below(over, which, piece)
        above = higher
        which = over_which
    return piece


def hear_with(hear, body):
    return (*hear[:4], body)


def keeper_with(keeper, part, body):
    """The keeper with this body in its part, an end or a hear."""
    if part[0] == "end":
        return (*keeper[:4], (*keeper[4][:2], body), keeper[5])
    hears = [hear_with(hear, body) if hear[0] == part[2] else hear for hear in keeper[5]]
    return (*keeper[:5], tuple(hears))


def program_with(program, part, n, piece):
    """The program with this piece, and what is beneath it, in the place of piece n of the part."""
    asks, keepers, functions = program
    body = body_with(body_of(program, part), n, piece)
    name = part[1]
    if part[0] == "def":
        turned = [(*function[:3], body) if function[0] == name else function for function in functions]
        return (asks, keepers, tuple(turned))
    turned = [keeper_with(keeper, part, body) if keeper[0] == name else keeper for keeper in keepers]
    return (asks, tuple(turned), functions)
