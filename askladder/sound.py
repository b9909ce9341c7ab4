"""Looks a program through: the first thing that is amiss is refused."""

from askladder.errors import NoProgram
from askladder.known import Known
from askladder.parts import all_parts, begun_with, body_of
from askladder.piece_look import look_at_kind, look_at_piece
from askladder.scope import Scope


def look_at_names(rows):
    """Each of the rows begins with its name; no two may have the same."""
    seen = {}
    for row in rows:
        name = row[0]
        if name in seen:
            raise NoProgram("twice", name)
        seen[name] = True


def look_at_asks(asks):
    seen = {}
    for q, asked, answered in asks:
        if q in seen:
            raise NoProgram("twice", q)
        seen[q] = True
        if asked[0] in ("hold", "holds") or answered[0] in ("hold", "holds"):
            raise NoProgram("kind", q)


def look_at_heard(known, keeper):
    seen = {}
    for hear in keeper[5]:
        q = hear[0]
        if q not in known.asks:
            raise NoProgram("unknown", q)
        if q in seen:
            raise NoProgram("twice", q)
        seen[q] = True


def look_at_keeper_kinds(known, keeper):
    for kind in keeper[1:4]:
        look_at_kind(known, kind)


def look_at_function_kinds(known, function):
    seen = {}
    for name, kind in function[1]:
        if name in seen:
            raise NoProgram("twice", name)
        seen[name] = True
        look_at_kind(known, kind)
    look_at_kind(known, function[2])


def given_by(known, part):
    """The kind of what the part gives."""
    if part[0] == "def":
        return known.functions[part[1]][2]
    return known.keepers[part[1]][3]


def look_at_part(known, program, part):
    gives = given_by(known, part)
    scope = Scope(known, begun_with(program, part), body_of(program, part))
    while scope.has_more():
        piece = scope.take()
        look_at_piece(scope, piece, gives)
        scope.pass_on(piece)


def look(program):
    """True where the program is sound; else NoProgram tells of the first thing amiss."""
    asks, keepers, functions = program
    known = Known(program)
    look_at_asks(asks)
    look_at_names(keepers)
    for keeper in keepers:
        look_at_heard(known, keeper)
    look_at_names(functions)
    for keeper in keepers:
        look_at_keeper_kinds(known, keeper)
    for function in functions:
        look_at_function_kinds(known, function)
    for part in all_parts(program):
        look_at_part(known, program, part)
    return True
