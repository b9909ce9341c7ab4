"""A second turning of programs, written apart from the package; new names are words that begin with @.

Each tells None where the program can't be turned there.
"""

from itertools import count

from askladder.asking import asks_of
from askladder.words import is_name
from askladder.writer import shown
from tests.programs import function_named, keeper_named, parts_by_hand, scoped
from tests.second_often import second_holds
from tests.second_run import bodies


def fits(old, expected, told):
    """Why the told text isn't the expected one but for new names, which nothing in the old one may have; else None."""
    taken = set(old.replace("\n", " ").split(" "))
    news = {}
    one, other = (text.replace("\n", " \n ").split(" ") for text in (expected, told))
    if len(one) != len(other):
        return "%s\nis not\n%s" % (told, expected)
    for word, found in zip(one, other):
        if not word.startswith("@"):
            if word != found:
                return "%s in the place of %s in\n%s\nwhich is not\n%s" % (found, word, told, expected)
        elif news.setdefault(word, found) != found:
            return "%s is both %s and %s" % (word, news[word], found)
    if len(set(news.values())) != len(news):
        return "two new names are alike"
    for name in news.values():
        if name in taken or not is_name(name):
            return "%s is none of the new names" % name
    return None


def body_at(body, n, put):
    """The body with what put tells of its piece n in the place of that."""
    numbers = count()

    def through(piece):
        if next(numbers) == n:
            return put(piece)
        made = list(piece)
        for at in bodies(piece):
            made[at] = through(piece[at])
        return tuple(made)

    return through(body)


def at_piece(program, part, n, put, *functions):
    """The program turned at piece n of the part, with these functions more."""
    asks, keepers, old = program

    def turned(*here):
        return (lambda body: body_at(body, n, put)) if here == part else (lambda body: body)

    keepers = tuple((k, note, takes, gives, (*end[:2], turned("end", k)(end[2])),
                     tuple((*hear[:4], turned("hear", k, hear[0])(hear[4])) for hear in hears))
                    for k, note, takes, gives, end, hears in keepers)
    old = tuple((f, params, kind, turned("def", f)(body)) for f, params, kind, body in old)
    return (asks, keepers, old + functions)


def piece_of(program, part, n):
    if part not in parts_by_hand(program):
        return ("none",)
    found = [piece for piece, _ in scoped(program, part)]
    return found[n] if n in range(len(found)) else ("none",)


def laid(piece, names, x, behind):
    """The body with each name as names has it, a new one where it hasn't; the behind behind each of its gives."""
    def of(a):
        return a if isinstance(a, int) else names.get(a, "@" + a)

    def on(body):
        return laid(body, names, x, behind)

    match piece:
        case ("give", a):
            return ("let", x, of(a), behind)
        case ("tell", a, body):
            return ("tell", of(a), on(body))
        case ("if", a, one, other):
            return ("if", of(a), on(one), on(other))
        case ("case", r, one, y, z, other):
            return ("case", of(r), on(one), of(y), of(z), on(other))
        case ("let", y, a, body):
            return ("let", of(y), of(a), on(body))
        case ("sum", y, sign, a, b, body):
            return ("sum", of(y), sign, of(a), of(b), on(body))
        case ("empty", y, kind, body):
            return ("empty", of(y), kind, on(body))
        case ("put" | "last" as sort, y, a, b, body):
            return (sort, of(y), of(a), of(b), on(body))
        case ("call", y, f, args, body):
            return ("call", of(y), f, tuple(map(of, args)), on(body))
        case ("ask", y, q, a, body):
            return ("ask", of(y), q, of(a), on(body))
        case ("keep", y, k, a, f, args, body):
            return ("keep", of(y), k, of(a), f, tuple(map(of, args)), on(body))
        case ("go", y, h, a, b, body):
            return ("go", of(y), of(h), of(a), of(b), on(body))


def second_laid_in(program, part, n):
    piece = piece_of(program, part, n)
    if piece[0] != "call":
        return None
    _, x, f, args, behind = piece
    _, params, _, body = function_named(program, f)
    names = dict(zip([name for name, _ in params], args))
    return at_piece(program, part, n, lambda _: laid(body, names, x, behind))


def heard_by(program, k):
    return [hear[0] for hear in keeper_named(program, k)[5]]


def second_let_go(program, part, n):
    piece = piece_of(program, part, n)
    if piece[0] != "keep":
        return None
    _, x, k, note, f, args, behind = piece
    if set(asks_of(program)["def", f]) & set(heard_by(program, k)):
        return None
    _, n_kind, takes, gives, (x_name, n_name, body), _ = keeper_named(program, k)
    return at_piece(program, part, n, lambda _: ("call", "@y", f, args, ("call", x, "@g", ("@y", note), behind)),
                    ("@g", ((x_name, takes), (n_name, n_kind)), gives, body))


def second_passed_on(program, k, q):
    if k not in [keeper[0] for keeper in program[1]] or q not in heard_by(program, k):
        return None
    _, x, h, n, body = next(hear for hear in keeper_named(program, k)[5] if hear[0] == q)
    match body:
        case ("ask", y, asked, a, ("go", z, held, b, note, ("give", c))) if (
                (asked, a, held, b, note, c) == (q, x, h, y, n, z)):
            pass
        case _:
            return None
    if any("%s %s %s" % (sort, k, q) in shown(program) for sort in ("hold", "holds")):
        return None
    asks, keepers, functions = program
    return (asks, tuple((*keeper[:5], tuple(hear for hear in keeper[5] if (keeper[0], hear[0]) != (k, q)))
                        for keeper in keepers), functions)


def may_change_places(program, one, other):
    if one == other or set(heard_by(program, one)) & set(heard_by(program, other)):
        return False
    for k in (one, other):
        x, _, body = keeper_named(program, k)[4]
        if body != ("give", x):
            return False
        for q, _, h, _, _ in keeper_named(program, k)[5]:
            if second_holds(program)[k, q] != "last":
                return False
            for piece, _ in scoped(program, ("hear", k, q)):
                if piece[0] in ("call", "ask", "keep", "tell") or (piece[0] == "go" and piece[2] != h):
                    return False
    return True


def second_exchanged(program, part, n):
    piece = piece_of(program, part, n)
    if piece[0] != "keep":
        return None
    _, x, k, a, f, args, behind = piece
    _, params, kind, body = function_named(program, f)
    match body:
        case ("keep", y, j, b, g, g_args, ("give", c)) if c == y and may_change_places(program, k, j):
            names = dict(zip([name for name, _ in params], args))
            new = ("@f", (*params, ("@n", keeper_named(program, k)[1])), kind,
                   ("keep", y, k, "@n", g, g_args, ("give", y)))
            return at_piece(program, part, n, lambda _: ("keep", x, j, names.get(b, b), "@f", (*args, a), behind), new)
    return None
