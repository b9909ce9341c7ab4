"""The plain ladder, turn by turn."""

from askladder.doing import plain_args
from askladder.known import Known
from askladder.run import Run


class Walk(Run):
    """A run of the function f on the plain ladder.

    A step that stands is never changed, but replaced by another: so what was cut stays as it was.
    A hold is the tuple ("hold", j), j its number; what it holds is in the list of all that was cut.
    """

    def __init__(self, program, f, handed):
        Run.__init__(self, program)
        self.heard = Known(program).heard
        self.standing = []
        self.cut = []
        self.put_part(("def", f), plain_args(handed))

    def turn(self):
        """Does the next piece; True while there is no end behind it."""
        if self.ended is not None:
            return False
        _, part, number, names = self.standing[-1]
        self.do_next(part, number, names)
        return self.ended is None

    def ladder(self):
        """A list of the steps that stand, the lowest first."""
        return [(*step[:3], dict(step[3])) if step[0] == "part" else step for step in self.standing]

    def steps(self):
        """How many steps were done."""
        return self.done

    def end(self):
        """How the run ended, or None."""
        return self.ended

    def book(self):
        """A list of the rows of the run's book."""
        return list(self.rows)

    def put_part(self, part, begun):
        self.standing.append(("part", part, 0, self.numbered[part].names_with(begun)))

    def go_on(self, second, worths):
        """The highest part goes on in the first or the second body of its piece, whose names are bound to these."""
        _, part, number, names = self.standing[-1]
        following, bound = self.numbered[part].gone_on(number, names, second, worths)
        self.standing[-1] = ("part", part, following, bound)

    def keep(self, keeper, note, f, handed):
        self.rows.append(("keep", keeper))
        self.standing.append(("keep", keeper, note))
        self.put_part(("def", f), handed)

    def give(self, given):
        self.standing.pop()
        if not self.standing:
            self.ended = ("gave", given)
        elif self.standing[-1][0] == "part":
            self.answered(given)
        else:
            _, keeper, note = self.standing.pop()
            self.rows.append(("ended", keeper))
            self.put_part(("end", keeper), [given, note])

    def hearer_of(self, q):
        """Where on the ladder the highest keep stands whose keeper hears the ask, or None."""
        for at in range(len(self.standing) - 1, -1, -1):
            step = self.standing[at]
            if step[0] == "keep" and q in self.heard[step[1]]:
                return at
        return None

    def ask(self, q, asked):
        at = self.hearer_of(q)
        if at is None:
            self.ended = ("unheard", q, asked)
            return
        _, keeper, note = self.standing[at]
        below = self.standing[:at]
        self.rows.append(("ask", q, len([step for step in below if step[0] == "keep"])))
        hold = ("hold", len(self.cut))
        self.cut.append(self.standing[at:])
        self.standing = below
        self.put_part(("hear", keeper, q), [asked, hold, note])

    def go(self, hold, answer, note):
        """Lays back what is held: its asking part is answered, its keep has this note."""
        self.rows.append(("go", hold[1]))
        keep, *above = self.cut[hold[1]]
        self.standing.append(("keep", keep[1], note))
        self.standing.extend(above)
        self.answered(answer)
