"""A second code, written apart from the package: bodies as trees, names as a dict of their own in each body."""

from tests.programs import begin_of, parts_by_hand


def second_code(program, part):
    kinds, body = begin_of(program, part)
    rows = []
    many = len(kinds)

    def atom(slots, a):
        return ("lit", a) if isinstance(a, int) else ("slot", slots[a])

    def new():
        nonlocal many
        many += 1
        return many - 1

    def code(piece, slots):
        def of(*atoms):
            return tuple(atom(slots, a) for a in atoms)

        at = len(rows)
        rows.append(None)
        match piece:
            case ("give", a):
                rows[at] = ("give", *of(a))
                return
            case ("tell", a, under):
                rows[at] = ("tell", *of(a))
                return code(under, slots)
            case ("if", a, one, other):
                code(one, slots)
                rows[at] = ("if", *of(a), len(rows))
                return code(other, slots)
            case ("case", r, one, x, y, other):
                first, second = new(), new()
                code(one, slots)
                rows[at] = ("case", *of(r), first, second, len(rows))
                return code(other, {**slots, x: first, y: second})
        slot = new()
        match piece:
            case ("let", x, a, under):
                rows[at] = ("let", slot, *of(a))
            case ("sum", x, sign, a, b, under):
                rows[at] = ("sum", slot, sign, *of(a, b))
            case ("empty", x, kind, under):
                rows[at] = ("empty", slot, kind)
            case ("put" | "last" as sort, x, a, b, under):
                rows[at] = (sort, slot, *of(a, b))
            case ("call", x, f, args, under):
                rows[at] = ("call", slot, f, of(*args))
            case ("ask", x, q, a, under):
                rows[at] = ("ask", slot, q, *of(a))
            case ("keep", x, k, a, f, args, under):
                rows[at] = ("keep", slot, k, *of(a), f, of(*args))
            case ("go", x, h, a, b, under):
                rows[at] = ("go", slot, *of(h, a, b))
        code(under, {**slots, x: slot})

    code(body, {name: slot for slot, name in enumerate(kinds)})
    return (many, rows)


def second_codes(program):
    return {part: second_code(program, part) for part in parts_by_hand(program)}
