"""What stands where in a piece."""

# By its sort where a piece has its atoms, from the left; those of its args stand behind them.
ATOMS_AT = {
    "give": (1,), "let": (2,), "sum": (3, 4), "empty": (), "put": (2, 3), "last": (2, 3), "call": (),
    "ask": (3,), "keep": (3,), "go": (2, 3, 4), "tell": (1,), "if": (1,), "case": (1,),
}


def args_of(piece):
    """The args of a call or a keep; of another piece none."""
    if piece[0] == "call":
        return piece[3]
    if piece[0] == "keep":
        return piece[5]
    return ()


def function_of(piece):
    """The name of the function of a call or a keep."""
    return piece[2] if piece[0] == "call" else piece[4]


def atoms_of(piece):
    """The atoms of the piece, from the left."""
    atoms = [piece[at] for at in ATOMS_AT[piece[0]]]
    atoms.extend(list(args_of(piece)))
    return atoms


def bodies_of(piece):
    """The bodies right beneath the piece, in order."""
    sort = piece[0]
    if sort == "give":
        return []
    if sort == "if":
        return [piece[2], piece[3]]
    if sort == "case":
        return [piece[2], piece[5]]
    return [piece[-1]]


def bound_by(piece):
    """The names that the piece binds, from the left."""
    sort = piece[0]
    if sort in ("give", "tell", "if"):
        return []
    if sort == "case":
        return [piece[3], piece[4]]
    return [piece[1]]


def head_of(piece):
    """The piece without its bodies."""
    sort = piece[0]
    if sort == "give":
        return piece
    if sort == "if":
        return piece[:2]
    if sort == "case":
        return (sort, piece[1], piece[3], piece[4])
    return piece[:-1]


def head_with(piece, atoms, names):
    """The head of the piece, with these atoms and these bound names in the places of its own."""
    head = list(head_of(piece))
    places = ATOMS_AT[piece[0]]
    for at, atom in zip(places, atoms):
        head[at] = atom
    if piece[0] in ("call", "keep"):
        head[-1] = tuple(atoms[len(places):])
    if piece[0] == "case":
        head[2:4] = names
    elif names:
        head[1] = names[0]
    return tuple(head)


def whole_piece(head, bodies):
    """The piece of the head, its bodies taken from the end of those already made, the first one from the last."""
    sort = head[0]
    if sort == "give":
        return head
    body = bodies.pop()
    if sort == "if":
        return (sort, head[1], body, bodies.pop())
    if sort == "case":
        return (sort, head[1], body, head[2], head[3], bodies.pop())
    return (*head, body)
