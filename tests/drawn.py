"""Draws ladders as short rows, so that tests can have them turn by turn.

A part is `f@n`, `end k@n` or `k.q@n`, n its piece, behind it the names with what they are; a keep is `[k note]`;
a row is in brackets, a hold is `#j`.
"""


def worth_drawn(worth):
    if isinstance(worth, int):
        return str(worth)
    if worth[:1] == ("hold",):
        return "#%d" % worth[1]
    return "(%s)" % " ".join(map(worth_drawn, worth))


def step_drawn(step):
    if step[0] == "keep":
        return "[%s %s]" % (step[1], worth_drawn(step[2]))
    _, part, n, names = step
    place = {"def": "%s", "end": "end %s", "hear": "%s.%s"}[part[0]] % part[1:]
    return " ".join(["%s@%d" % (place, n)] + ["%s=%s" % (x, worth_drawn(v)) for x, v in names.items()])


def ladder_drawn(ladder):
    return " | ".join(map(step_drawn, ladder))


def book_drawn(rows):
    return "; ".join(" ".join(map(str, row)) for row in rows)


def turns_drawn(walk, many):
    """A row for each of the first turns: the ladder behind it, then what the book has more."""
    rows = [ladder_drawn(walk.ladder())]
    before = 0
    for _ in range(many):
        walk.turn()
        row = ladder_drawn(walk.ladder()) if walk.end() is None else "%s %s" % (walk.end(), ladder_drawn(walk.ladder()))
        more = walk.book()[before:]
        before += len(more)
        rows.append(row.strip() + (" -- " + book_drawn(more) if more else ""))
    return rows
