"""The plain ladder, turn by turn."""

from askladder.forms import args_of, function_of
from askladder.known import Known
from askladder.parts import all_parts, begun_with, body_of, pieces, second_numbers
from askladder.worth import plain_worth, worth


class Numbered:
    """A part as it is run: the names that it begins with, its pieces, where their second bodies begin."""

    def __init__(self, program, part):
        body = body_of(program, part)
        self.begun = [name for name, kind in begun_with(program, part)]
        self.pieces = pieces(body)
        self.seconds = second_numbers(body)


def args_worth(piece, names):
    return [worth(arg, names) for arg in args_of(piece)]


def do_plain(walk, piece, names):
    walk.answered(plain_worth(piece, names))


def do_tell(walk, piece, names):
    walk.rows.append(("tell", worth(piece[1], names)))
    walk.go_on(False, {})


def do_if(walk, piece, names):
    walk.go_on(worth(piece[1], names) == 0, {})


def do_case(walk, piece, names):
    row = worth(piece[1], names)
    walk.go_on(len(row) > 0, {piece[3]: row[0], piece[4]: row[1:]} if row else {})


def do_call(walk, piece, names):
    walk.put_part(("def", function_of(piece)), args_worth(piece, names))


def do_keep(walk, piece, names):
    walk.put_keep(piece[2], worth(piece[3], names))
    walk.put_part(("def", function_of(piece)), args_worth(piece, names))


def do_ask(walk, piece, names):
    walk.ask(piece[2], worth(piece[3], names))


def do_go(walk, piece, names):
    walk.lay_back(worth(piece[2], names)[1], worth(piece[3], names), worth(piece[4], names))


def do_give(walk, piece, names):
    walk.give(worth(piece[1], names))


DOINGS = {
    "let": do_plain, "sum": do_plain, "empty": do_plain, "put": do_plain, "last": do_plain,
    "tell": do_tell, "if": do_if, "case": do_case, "call": do_call, "keep": do_keep,
    "ask": do_ask, "go": do_go, "give": do_give,
}


class Walk:
    """A run of the function f on the plain ladder.

    A step that stands is never changed, but replaced by another: so what was cut stays as it was.
    A hold is the tuple ("hold", j), j its number; what it holds is in the list of all that was cut.
    """

    def __init__(self, program, f, handed):
        self.heard = Known(program).heard
        self.numbered = {part: Numbered(program, part) for part in all_parts(program)}
        self.standing = []
        self.cut = []
        self.rows = []
        self.done = 0
        self.ended = None
        self.put_part(("def", f), [tuple(arg) if isinstance(arg, list) else arg for arg in handed])

    def turn(self):
        """Does the next piece; True while there is no end behind it."""
        if self.ended is not None:
            return False
        self.done += 1
        _, part, number, names = self.standing[-1]
        piece = self.numbered[part].pieces[number]
        do_piece = DOINGS[piece[0]]
        do_piece(self, piece, names)
        return self.ended is None

    def ladder(self):
        """A list of the steps that stand, the lowest first."""
        return [(*step[:3], dict(step[3])) if step[0] == "part" else step for step in self.standing]

    def steps(self):
        """How many steps were done."""
        return self.done

    def end(self):
        """How the run ended, or None."""
        return self.ended

    def book(self):
        """A list of the rows of the run's book."""
        return list(self.rows)

    def put_part(self, part, begun):
        names = dict(zip(self.numbered[part].begun, begun))
        self.standing.append(("part", part, 0, names))

    def put_keep(self, keeper, note):
        self.rows.append(("keep", keeper))
        self.standing.append(("keep", keeper, note))

    def go_on(self, second, binds):
        """The highest part goes on in the first or the second body of its piece, with these names bound."""
        _, part, number, names = self.standing[-1]
        following = self.numbered[part].seconds[number] if second else number + 1
        self.standing[-1] = ("part", part, following, {**names, **binds})

    def answered(self, given):
        """The highest part binds the name that its piece binds, and goes on."""
        _, part, number, names = self.standing[-1]
        x = self.numbered[part].pieces[number][1]
        self.go_on(False, {x: given})

    def give(self, given):
        self.standing.pop()
        if not self.standing:
            self.ended = ("gave", given)
        elif self.standing[-1][0] == "part":
            self.answered(given)
        else:
            _, keeper, note = self.standing.pop()
            self.rows.append(("ended", keeper))
            self.put_part(("end", keeper), [given, note])

    def hearer_of(self, q):
        """Where on the ladder the highest keep stands whose keeper hears the ask, or None."""
        for at in range(len(self.standing) - 1, -1, -1):
            step = self.standing[at]
            if step[0] == "keep" and q in self.heard[step[1]]:
                return at
        return None

    def ask(self, q, asked):
        at = self.hearer_of(q)
        if at is None:
            self.ended = ("unheard", q, asked)
            return
        _, keeper, note = self.standing[at]
        below = self.standing[:at]
        self.rows.append(("ask", q, len([step for step in below if step[0] == "keep"])))
        hold = ("hold", len(self.cut))
        self.cut.append(self.standing[at:])
        self.standing = below
        self.put_part(("hear", keeper, q), [asked, hold, note])

    def lay_back(self, j, answer, note):
        """Goes on with the hold of this number: its asking part is answered, its keep has this note."""
        self.rows.append(("go", j))
        keep, *above = self.cut[j]
        self.standing.append(("keep", keep[1], note))
        self.standing.extend(above)
        self.answered(answer)
