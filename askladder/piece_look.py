"""Looks at one piece of a part: at its names, at whom it names, at how many args and of what kinds."""

from askladder.errors import NoProgram
from askladder.forms import args_of, atoms_of, function_of
from askladder.scope import NUM, thing_kind

# By the piece's sort where it has the atom on whose kind all else due of it hangs, and of what sorts that may be.
LEADS = {
    "put": (3, ("nums", "holds")), "last": (2, ("nums", "holds")), "case": (1, ("nums", "holds")),
    "go": (2, ("hold",)),
}


def look_at_kind(known, kind):
    """A kind of holds must be of a keeper that is there and of an ask that it hears."""
    if kind[0] in ("num", "nums"):
        return
    keeper, q = kind[1:]
    if keeper not in known.keepers:
        raise NoProgram("unknown", keeper)
    if q not in known.heard[keeper]:
        raise NoProgram("unknown", q)


def look_at_atoms(scope, piece):
    for atom in atoms_of(piece):
        if isinstance(atom, str) and atom not in scope.of_name:
            raise NoProgram("unknown", atom)


def look_at_named(known, piece):
    """At the function, the ask, the keeper that the piece names, at the kind of an empty."""
    sort = piece[0]
    if sort == "ask" and piece[2] not in known.asks:
        raise NoProgram("unknown", piece[2])
    if sort == "keep" and piece[2] not in known.keepers:
        raise NoProgram("unknown", piece[2])
    if sort in ("call", "keep") and function_of(piece) not in known.functions:
        raise NoProgram("unknown", function_of(piece))
    if sort == "empty":
        look_at_kind(known, piece[2])


def look_at_count(known, piece):
    if piece[0] not in ("call", "keep"):
        return
    f = function_of(piece)
    if len(args_of(piece)) != len(known.functions[f][1]):
        raise NoProgram("count", f)


def look_at_lead(scope, piece):
    if piece[0] not in LEADS:
        return
    at, sorts = LEADS[piece[0]]
    if scope.kind_of(piece[at])[0] not in sorts:
        raise NoProgram("kind", str(piece[at]))


def handed_dues(known, piece):
    """What is due of the atoms of a call or a keep."""
    params = known.functions[function_of(piece)][1]
    kinds = [kind for name, kind in params]
    if piece[0] == "keep":
        kinds.insert(0, known.keepers[piece[2]][1])
    return list(zip(atoms_of(piece), kinds))


def dues_of(scope, piece, gives):
    """A list of (atom, kind due), but for the lead; gives is the kind that the part gives."""
    sort = piece[0]
    if sort == "give":
        return [(piece[1], gives)]
    if sort in ("sum", "tell", "if"):
        return [(atom, NUM) for atom in atoms_of(piece)]
    if sort == "put":
        return [(piece[2], thing_kind(scope.kind_of(piece[3])))]
    if sort == "last":
        return [(piece[3], thing_kind(scope.kind_of(piece[2])))]
    if sort == "ask":
        return [(piece[3], scope.known.asks[piece[2]][1])]
    if sort in ("call", "keep"):
        return handed_dues(scope.known, piece)
    if sort == "go":
        keeper, q = scope.kind_of(piece[2])[1:]
        return [(piece[3], scope.known.asks[q][2]), (piece[4], scope.known.keepers[keeper][1])]
    return []


def look_at_kinds(scope, piece, gives):
    look_at_lead(scope, piece)
    for atom, due in dues_of(scope, piece, gives):
        if scope.kind_of(atom) != due:
            raise NoProgram("kind", str(atom))
    if piece[0] == "keep":
        f = piece[4]
        if scope.known.functions[f][2] != scope.known.keepers[piece[2]][2]:
            raise NoProgram("kind", f)


def look_at_piece(scope, piece, gives):
    """The piece, but for the names that it binds, in the order in which it is refused."""
    look_at_atoms(scope, piece)
    look_at_named(scope.known, piece)
    look_at_count(scope.known, piece)
    look_at_kinds(scope, piece, gives)
