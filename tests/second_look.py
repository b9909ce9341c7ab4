"""A second looking through, written apart from the package: what is amiss in a program, first of all.

Bodies are gone through by recursion, each with a dict of its own of the kinds of the names above it.
"""

from tests.programs import NUM, NUMS, ask_named, begin_of, below, function_named, keeper_named, parts_by_hand


def rows_of(program, at):
    return [row[0] for row in program[at]]


def kind_amiss(program, kind):
    if len(kind) == 1:
        return
    if kind[1] not in rows_of(program, 1):
        yield "unknown", kind[1]
    elif kind[2] not in [hear[0] for hear in keeper_named(program, kind[1])[5]]:
        yield "unknown", kind[2]


def repeated(names):
    for at, name in enumerate(names):
        if name in names[:at]:
            yield "twice", name


def head_amiss(program):
    asks, keepers, functions = program
    for at, (q, *kinds) in enumerate(asks):
        if q in rows_of(program, 0)[:at]:
            yield "twice", q
        for kind in kinds:
            if kind not in (NUM, NUMS):
                yield "kind", q
    yield from repeated(rows_of(program, 1))
    for keeper in keepers:
        heard = [hear[0] for hear in keeper[5]]
        for at, q in enumerate(heard):
            if q not in rows_of(program, 0):
                yield "unknown", q
            if q in heard[:at]:
                yield "twice", q
    yield from repeated(rows_of(program, 2))
    for _, note, takes, gives, _, _ in keepers:
        for kind in (note, takes, gives):
            yield from kind_amiss(program, kind)
    for _, params, gives, _ in functions:
        for at, (name, kind) in enumerate(params):
            if name in [earlier for earlier, _ in params[:at]]:
                yield "twice", name
            yield from kind_amiss(program, kind)
        yield from kind_amiss(program, gives)


def atoms(piece):
    match piece:
        case ("give" | "tell", a, *_) | ("if", a, _, _) | ("case", a, _, _, _, _) | ("let", _, a, _):
            return [a]
        case ("sum", _, _, a, b, _) | ("put" | "last", _, a, b, _):
            return [a, b]
        case ("call", _, _, args, _):
            return list(args)
        case ("ask", _, _, a, _):
            return [a]
        case ("keep", _, _, a, _, args, _):
            return [a, *args]
        case ("go", _, h, a, b, _):
            return [h, a, b]
    return []


def named_amiss(program, piece):
    match piece:
        case ("call", _, f, args, _):
            keeper, f, args = None, f, args
        case ("keep", _, keeper, _, f, args, _):
            if keeper not in rows_of(program, 1):
                yield "unknown", keeper
        case ("ask", _, q, _, _):
            if q not in rows_of(program, 0):
                yield "unknown", q
            return
        case ("empty", _, kind, _):
            yield from kind_amiss(program, kind)
            return
        case _:
            return
    if f not in rows_of(program, 2):
        yield "unknown", f
    if len(args) != len(function_named(program, f)[1]):
        yield "count", f


def thing_of(row):
    return {"nums": NUM, "holds": ("hold", *row[1:])}.get(row[0])


def kinds_due(program, piece, kind, gives):
    """Yields (what is named where it is amiss, whether it is as due)."""
    match piece:
        case ("give", a):
            yield a, kind(a) == gives
        case ("tell" | "if", a, *_):
            yield a, kind(a) == NUM
        case ("sum", _, _, a, b, _):
            yield a, kind(a) == NUM
            yield b, kind(b) == NUM
        case ("put", _, a, r, _) | ("last", _, r, a, _):
            yield r, thing_of(kind(r)) is not None
            yield a, kind(a) == thing_of(kind(r))
        case ("case", r, *_):
            yield r, thing_of(kind(r)) is not None
        case ("ask", _, q, a, _):
            yield a, kind(a) == ask_named(program, q)[1]
        case ("go", _, h, a, b, _):
            yield h, kind(h)[0] == "hold"
            yield a, kind(a) == ask_named(program, kind(h)[2])[2]
            yield b, kind(b) == keeper_named(program, kind(h)[1])[1]
        case ("call", _, f, args, _):
            for arg, (_, due) in zip(args, function_named(program, f)[1]):
                yield arg, kind(arg) == due
        case ("keep", _, k, a, f, args, _):
            _, note, takes, *_ = keeper_named(program, k)
            yield a, kind(a) == note
            for arg, (_, due) in zip(args, function_named(program, f)[1]):
                yield arg, kind(arg) == due
            yield f, function_named(program, f)[2] == takes


def body_amiss(program, body, kinds, gives):
    for atom in atoms(body):
        if isinstance(atom, str) and atom not in kinds:
            yield "unknown", atom
    yield from named_amiss(program, body)
    for name, right in kinds_due(program, body, lambda a: NUM if isinstance(a, int) else kinds[a], gives):
        if not right:
            yield "kind", str(name)
    if body[0] not in ("give", "tell", "if", "case") and body[1] in kinds:
        yield "twice", body[1]
    for at, (under, more) in enumerate(below(program, body, kinds)):
        if body[0] == "case" and at == 1:
            for name in body[3:5]:
                if name in kinds:
                    yield "twice", name
            if body[3] == body[4]:
                yield "twice", body[4]
        yield from body_amiss(program, under, more, gives)


def part_amiss(program, part):
    if part[0] == "def":
        gives = function_named(program, part[1])[2]
    else:
        keeper = keeper_named(program, part[1])
        gives = keeper[3]
        if part[0] == "end":
            yield from repeated(keeper[4][:2])
        else:
            yield from repeated(next(hear for hear in keeper[5] if hear[0] == part[2])[1:4])
    kinds, body = begin_of(program, part)
    yield from body_amiss(program, body, kinds, gives)


def all_amiss(program):
    yield from head_amiss(program)
    for part in parts_by_hand(program):
        yield from part_amiss(program, part)


def first_amiss(program):
    """(word, name) with which the program is refused, or None where it is sound."""
    return next(all_amiss(program), None)
