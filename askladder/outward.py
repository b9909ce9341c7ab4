"""The pieces by which asks may come out of parts."""

from askladder.known import Known
from askladder.parts import all_parts, begun_with, body_of, parts_of_keeper
from askladder.scope import Scope


def doing_of(scope, piece):
    """What the piece does by which asks may come out, in short; None where none do.

    ("ask", q), ("call", f), ("keep", K, f), or ("go", K) of a hold of K.
    """
    sort = piece[0]
    if sort in ("ask", "call"):
        return (sort, piece[2])
    if sort == "keep":
        return (sort, piece[2], piece[4])
    if sort == "go":
        return (sort, scope.kind_of(piece[2])[1])
    return None


def doings_of(known, program, part):
    """A list of (number of the piece, what it does), of the pieces of the part by which asks may come out."""
    found = []
    number = 0
    scope = Scope(known, begun_with(program, part), body_of(program, part))
    while scope.has_more():
        piece = scope.take()
        doing = doing_of(scope, piece)
        if doing is not None:
            found.append((number, doing))
        scope.pass_on(piece)
        number += 1
    return found


class Outward:
    """A program's pieces by which asks may come out.

    doings has the list of doings_of for each part, keeps for each keeper its keeps in all parts,
    as (part, number of the piece, function), parts for each keeper its end and its hears.
    """

    def __init__(self, program):
        known = Known(program)
        self.heard = known.heard
        self.parts = {keeper[0]: parts_of_keeper(keeper) for keeper in program[1]}
        self.doings = {part: doings_of(known, program, part) for part in all_parts(program)}
        self.keeps = {keeper[0]: [] for keeper in program[1]}
        for part, doings in self.doings.items():
            for number, doing in doings:
                if doing[0] == "keep":
                    self.keeps[doing[1]].append((part, number, doing[2]))
