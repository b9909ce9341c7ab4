"""What the pieces bind that only work something out."""

BILLION = 1000000000


def sum_worth(sign, a, b):
    """What a and b come to."""
    if sign == "+":
        return (a + b) % BILLION
    if sign == "-":
        return (a - b) % BILLION
    if sign == "*":
        return (a * b) % BILLION
    if sign == "<":
        return 1 if a < b else 0
    return 1 if a == b else 0


def plain_worth(piece, worths):
    """What a let, a sum, an empty, a put or a last binds; worths is what its atoms are, from the left."""
    sort = piece[0]
    if sort == "let":
        return worths[0]
    if sort == "sum":
        return sum_worth(piece[2], worths[0], worths[1])
    if sort == "empty":
        return ()
    if sort == "put":
        return (worths[0], *worths[1])
    return (*worths[0], worths[1])
