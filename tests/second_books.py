"""A second look at books, written apart from the package: what stands is a tuple, each row tells of the next one."""

from tests.programs import keeper_named


class Wrong(Exception):
    pass


def hears(program, keeper, q):
    return q in [hear[0] for hear in keeper_named(program, keeper)[5]]


def after(program, standing, held, row):
    """(what stands, what is held) behind the row."""
    match row:
        case ("keep", keeper):
            if keeper in [named[0] for named in program[1]]:
                return standing + (keeper,), held
        case ("ended", keeper):
            if standing[-1:] == (keeper,):
                return standing[:-1], held
        case ("ask", q, n):
            if max((at for at, keeper in enumerate(standing) if hears(program, keeper, q)), default=None) == n:
                return standing[:n], held + (standing[n:],)
        case ("go", j):
            if j in range(len(held)):
                return standing + held[j], held
        case ("tell", v):
            if v in range(10 ** 9):
                return standing, held
    raise Wrong


def second_check(program, book):
    """The number of the first row that isn't so, or None."""
    standing, held = (), ()
    for at, row in enumerate(book):
        try:
            standing, held = after(program, standing, held, row)
        except Wrong:
            return at
    return None


def second_sum(program, book):
    standing, held = (), ()
    heard = {keeper[0]: 0 for keeper in program[1]}
    most = 0
    for row in book:
        if row[0] == "ask":
            heard[standing[row[2]]] += 1
        standing, held = after(program, standing, held, row)
        most = max(most, len(standing))
    gone = [sum(row == ("go", j) for row in book) for j in range(len(held))]
    return (sum(row[0] == "keep" for row in book), heard, gone, [row[1] for row in book if row[0] == "tell"], most)
