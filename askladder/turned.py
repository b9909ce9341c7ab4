"""Programs turned into others that tell the same."""

from askladder.asking import asks_of
from askladder.errors import NoTurn
from askladder.forms import atoms_of, bound_by, head_with, whole_piece
from askladder.fresh import Fresh
from askladder.known import Known
from askladder.often import hold_words
from askladder.parts import all_parts, body_of, pieces
from askladder.places import piece_at, program_with

# What hears may do, but for their last go and its give, where their keep is exchanged with another.
QUIET = ("let", "sum", "empty", "put", "last", "if", "case", "give")


def piece_of_sort(program, part, n, sort):
    """Piece n of the part; NoTurn where it isn't there or is of another sort."""
    piece = piece_at(program, part, n)
    if piece[0] != sort:
        raise NoTurn()
    return piece


def with_function(program, function):
    """The program with one more function, at the end."""
    return (*program[:2], (*program[2], function))


def names_swapped(program, function, handed):
    """What stands for each name of the function where it is laid in: what is handed to it, else a new name."""
    swapped = {name: arg for (name, kind), arg in zip(function[1], handed)}
    fresh = Fresh(program)
    for piece in pieces(function[3]):
        for name in bound_by(piece):
            if name not in swapped:
                swapped[name] = fresh.new_name()
    return swapped


def laid_body(body, swapped, x, behind):
    """The body with its names swapped, each of its gives a let of x to what it gives, the behind behind it."""
    bodies = []
    for piece in reversed(pieces(body)):
        atoms = [swapped[atom] if isinstance(atom, str) else atom for atom in atoms_of(piece)]
        if piece[0] == "give":
            bodies.append(("let", x, atoms[0], behind))
        else:
            head = head_with(piece, atoms, [swapped[name] for name in bound_by(piece)])
            bodies.append(whole_piece(head, bodies))
    return bodies[0]


def laid_in(program, part, n):
    """The program with the body of the called function in the place of the call."""
    _, x, f, handed, behind = piece_of_sort(program, part, n, "call")
    function = Known(program).functions[f]
    swapped = names_swapped(program, function, handed)
    return program_with(program, part, n, laid_body(function[3], swapped, x, behind))


def let_go(program, part, n):
    """The program with calls of the kept function, and of one that does what the keeper's end does, for the keep."""
    _, x, keeper, note, f, handed, behind = piece_of_sort(program, part, n, "keep")
    known = Known(program)
    told = asks_of(program)[("def", f)]
    if any([q in told for q in known.heard[keeper]]):
        raise NoTurn()
    fresh = Fresh(program)
    given = fresh.new_name()
    closing = fresh.new_name()
    note_kind, takes, gives, end = known.keepers[keeper][1:5]
    calls = ("call", given, f, handed, ("call", x, closing, (given, note), behind))
    function = (closing, ((end[0], takes), (end[1], note_kind)), gives, end[2])
    return with_function(program_with(program, part, n, calls), function)


def passes_on(hear):
    """True where the hear does nothing but ask the same, and go on with what that is answered."""
    q, x, h, n, body = hear
    if body[0] != "ask" or body[2:4] != (q, x):
        return False
    going = body[4]
    if going[0] != "go" or going[2:5] != (h, body[1], n):
        return False
    return going[5] == ("give", going[1])


def kinds_in(program):
    """A list of all kinds that stand in the program."""
    found = []
    for keeper in program[1]:
        found.extend(list(keeper[1:4]))
    for function in program[2]:
        found.extend([*[kind for name, kind in function[1]], function[2]])
    for part in all_parts(program):
        found.extend([piece[2] for piece in pieces(body_of(program, part)) if piece[0] == "empty"])
    return found


def passed_on(program, keeper, q):
    """The program in which the keeper doesn't hear the ask, which its hear only passes on."""
    known = Known(program)
    if keeper not in known.keepers or q not in known.heard[keeper]:
        raise NoTurn()
    hears = known.keepers[keeper][5]
    if not all([passes_on(hear) for hear in hears if hear[0] == q]):
        raise NoTurn()
    if any([kind[1:] == (keeper, q) for kind in kinds_in(program)]):
        raise NoTurn()
    others = tuple([hear for hear in hears if hear[0] != q])
    asks, keepers, functions = program
    turned = [(*told[:5], others) if told[0] == keeper else told for told in keepers]
    return (asks, tuple(turned), functions)


def is_quiet(hear):
    """True where the hear does no more than exchanged keepers' hears may."""
    return all([piece[0] in QUIET or piece[0] == "go" and piece[2] == hear[2] for piece in pieces(hear[4])])


def may_be_exchanged(program, one, other):
    """True where keeps by these two keepers may stand either way round."""
    words = hold_words(program)
    for keeper in (one, other):
        x, n, body = keeper[4]
        if body != ("give", x):
            return False
        if not all([words[(keeper[0], hear[0])] == "last" and is_quiet(hear) for hear in keeper[5]]):
            return False
    asks = [hear[0] for hear in other[5]]
    return one[0] != other[0] and not any([hear[0] in asks for hear in one[5]])


def kept_around(known, f):
    """The keep piece of a function that does no more than keep and give what comes of it; else NoTurn."""
    body = known.functions[f][3]
    if body[0] != "keep" or body[6] != ("give", body[1]):
        raise NoTurn()
    return body


def exchanged(program, part, n):
    """The program in which the keep and the one that the kept function is stand the other way round."""
    _, x, outer, note, f, handed, behind = piece_of_sort(program, part, n, "keep")
    known = Known(program)
    _, y, inner, inner_note, g, g_handed, giving = kept_around(known, f)
    if not may_be_exchanged(program, known.keepers[outer], known.keepers[inner]):
        raise NoTurn()
    params, kind = known.functions[f][1:3]
    if isinstance(inner_note, str):
        inner_note = handed[[name for name, param_kind in params].index(inner_note)]
    fresh = Fresh(program)
    keeping = fresh.new_name()
    outer_note = fresh.new_name()
    body = ("keep", y, outer, outer_note, g, g_handed, giving)
    function = (keeping, (*params, (outer_note, known.keepers[outer][1])), kind, body)
    piece = ("keep", x, inner, inner_note, keeping, (*handed, note), behind)
    return with_function(program_with(program, part, n, piece), function)
