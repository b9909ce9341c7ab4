"""The parts of a program, and the pieces of a part by their numbers."""

from askladder.forms import bodies_of


def parts_of_keeper(keeper):
    """The keeper's end and its hears, in order."""
    name = keeper[0]
    return [("end", name), *[("hear", name, hear[0]) for hear in keeper[5]]]


def all_parts(program):
    """A list of the parts: keeper by keeper its end and its hears, then the functions."""
    parts = []
    for keeper in program[1]:
        parts.extend(parts_of_keeper(keeper))
    parts.extend([("def", function[0]) for function in program[2]])
    return parts


def row_named(rows, name):
    """The first of the rows, each of which begins with its name, that has this one."""
    return [row for row in rows if row[0] == name][0]


def body_of(program, part):
    """The body of the part."""
    if part[0] == "def":
        return row_named(program[2], part[1])[3]
    keeper = row_named(program[1], part[1])
    if part[0] == "end":
        return keeper[4][2]
    return row_named(keeper[5], part[2])[4]


def begun_with(program, part):
    """A list of (name, kind): what is bound where the part begins."""
    if part[0] == "def":
        return list(row_named(program[2], part[1])[1])
    keeper = row_named(program[1], part[1])
    note = keeper[1]
    if part[0] == "end":
        x, n = keeper[4][:2]
        return [(x, keeper[2]), (n, note)]
    q, x, h, n = row_named(keeper[5], part[2])[:4]
    asked = row_named(program[0], q)[1]
    return [(x, asked), (h, ("hold", keeper[0], q)), (n, note)]


def pieces(body):
    """A list of the whole pieces of the body, in order; without recursion, for bodies may be deep."""
    found = []
    waiting = [body]
    while waiting:
        piece = waiting.pop()
        found.append(piece)
        waiting.extend(bodies_of(piece)[::-1])
    return found


def second_numbers(body):
    """A dict from the number of each if and case to that with which its second body begins."""
    found = {}
    number = 0
    # Each body with the number of the piece whose second one it is, else None.
    waiting = [(body, None)]
    while waiting:
        piece, above = waiting.pop()
        if above is not None:
            found[above] = number
        below = bodies_of(piece)
        if len(below) == 2:
            waiting.append((below[1], number))
        if below:
            waiting.append((below[0], None))
        number += 1
    return found
