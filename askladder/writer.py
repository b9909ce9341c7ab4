"""Writes a program as its text."""


def bound_to(piece):
    """What stands behind the `be` of a piece that binds a name: words, numbers."""
    sort = piece[0]
    if sort == "let":
        return [piece[2]]
    if sort == "sum":
        return [piece[3], piece[2], piece[4]]
    if sort in ("empty", "call", "keep"):
        # A kind or args stand last ahead of the body, as a tuple.
        return [sort, *piece[2:-2], *piece[-2]]
    return [sort, *piece[2:-1]]


def spread(piece):
    """The piece as a list of what is written for it: words, numbers, and bodies still to be spread."""
    sort = piece[0]
    if sort == "give":
        return ["give", piece[1]]
    if sort == "tell":
        return ["tell", piece[1], ";", piece[2]]
    if sort == "if":
        return ["if", piece[1], ":", piece[2], "else", piece[3], "end"]
    if sort == "case":
        return ["case", piece[1], "none", piece[2], "more", piece[3], piece[4], ":", piece[5], "end"]
    return ["let", piece[1], "be", *bound_to(piece), ";", piece[-1]]


def body_words(body):
    """The words of a body; without recursion, for bodies may be nested to any depth."""
    words = []
    waiting = [body]
    while waiting:
        item = waiting.pop()
        if isinstance(item, tuple):
            waiting.extend(spread(item)[::-1])
        else:
            words.append(str(item))
    return words


def row_of(ahead, body):
    return " ".join([*ahead, ":", *body_words(body)])


def ask_row(ask):
    q, asked, answered = ask
    return " ".join(["ask", q, *asked, "to", *answered])


def keeper_rows(keeper):
    name, note, takes, gives, end, hears = keeper
    rows = [" ".join(["keeper", name, "note", *note, "takes", *takes, "gives", *gives])]
    rows.append(row_of(["end", end[0], end[1]], end[2]))
    for q, x, h, n, body in hears:
        rows.append(row_of(["hears", q, x, h, n], body))
    return rows


def function_row(function):
    f, params, kind, body = function
    ahead = ["def", f]
    for name, param_kind in params:
        ahead.extend([name, *param_kind])
    return row_of([*ahead, "to", *kind], body)


def shown(program):
    """The text of the program."""
    asks, keepers, functions = program
    rows = [ask_row(ask) for ask in asks]
    for keeper in keepers:
        rows.extend(keeper_rows(keeper))
    rows.extend([function_row(function) for function in functions])
    return "\n".join(rows)
