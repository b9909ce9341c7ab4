"""What atoms are, and what the pieces bind that only work something out."""

BILLION = 1000000000


def worth(atom, names):
    """What the atom is; names has what each name is."""
    return names[atom] if isinstance(atom, str) else atom


def sum_worth(sign, a, b):
    """What a and b come to."""
    if sign == "+":
        return (a + b) % BILLION
    if sign == "-":
        return (a - b) % BILLION
    if sign == "*":
        return (a * b) % BILLION
    if sign == "<":
        return 1 if a < b else 0
    return 1 if a == b else 0


def plain_worth(piece, names):
    """What a let, a sum, an empty, a put or a last binds."""
    sort = piece[0]
    if sort == "let":
        return worth(piece[2], names)
    if sort == "sum":
        return sum_worth(piece[2], worth(piece[3], names), worth(piece[4], names))
    if sort == "empty":
        return ()
    first = worth(piece[2], names)
    second = worth(piece[3], names)
    return (first, *second) if sort == "put" else (*first, second)
