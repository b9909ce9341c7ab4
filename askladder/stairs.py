"""The stairs: flights of parts, each begun by a keep, and a book of who hears what."""

from askladder.doing import plain_args
from askladder.known import Known
from askladder.run import Run, run_within


class Flight:
    """A keep, of the lowest flight none, and the parts above it, as (part, number of its piece, names)."""

    def __init__(self, keeper, note, parts):
        self.keeper = keeper
        self.note = note
        self.parts = parts


class Stairs(Run):
    """A run of the function f on stairs.

    A hold is the tuple ("hold", j), j its number; the flights that it holds are in the list of all that was cut,
    and aren't changed any more: other flights like them are laid back.
    """

    def __init__(self, program, f, handed):
        Run.__init__(self, program)
        known = Known(program)
        self.heard = known.heard
        self.standing = [Flight(None, None, [])]
        self.hearing = {q: [] for q in known.asks}
        self.cut = []
        self.put_part(("def", f), plain_args(handed))

    def turn(self):
        """Does the next piece; True while there is no end behind it."""
        if self.ended is not None:
            return False
        part, number, names = self.standing[-1].parts[-1]
        self.do_next(part, number, names)
        return self.ended is None

    def steps(self):
        """How many steps were done."""
        return self.done

    def end(self):
        """How the run ended, or None."""
        return self.ended

    def book(self):
        """A list of the rows of the run's book."""
        return list(self.rows)

    def flights(self):
        """A list of (keeper, parts), parts a list of (part, number of its piece), the lowest first."""
        return [(flight.keeper, [(part, number) for part, number, names in flight.parts]) for flight in self.standing]

    def hearers(self):
        """A dict from all asks to the rising lists of the numbers of the flights whose keepers hear them."""
        return {q: list(numbers) for q, numbers in self.hearing.items()}

    def put_part(self, part, begun):
        self.standing[-1].parts.append((part, 0, self.numbered[part].names_with(begun)))

    def put_flight(self, flight):
        for q in self.heard[flight.keeper]:
            self.hearing[q].append(len(self.standing))
        self.standing.append(flight)

    def take_flights(self, lowest):
        """The flights from this number on, which go off the stairs."""
        taken = self.standing[lowest:]
        del self.standing[lowest:]
        for flight in taken:
            for q in self.heard[flight.keeper]:
                self.hearing[q].pop()
        return taken

    def go_on(self, second, worths):
        """The highest part goes on in the first or the second body of its piece, whose names are bound to these."""
        parts = self.standing[-1].parts
        part, number, names = parts[-1]
        following, bound = self.numbered[part].gone_on(number, names, second, worths)
        parts[-1] = (part, following, bound)

    def keep(self, keeper, note, f, handed):
        self.rows.append(("keep", keeper))
        self.put_flight(Flight(keeper, note, []))
        self.put_part(("def", f), handed)

    def give(self, given):
        highest = self.standing[-1]
        highest.parts.pop()
        if highest.parts:
            self.answered(given)
        elif highest.keeper is None:
            self.ended = ("gave", given)
        else:
            self.take_flights(len(self.standing) - 1)
            self.rows.append(("ended", highest.keeper))
            self.put_part(("end", highest.keeper), [given, highest.note])

    def ask(self, q, asked):
        if not self.hearing[q]:
            self.ended = ("unheard", q, asked)
            return
        number = self.hearing[q][-1]
        # Keeps are counted from 0, and the lowest flight has none.
        self.rows.append(("ask", q, number - 1))
        taken = self.take_flights(number)
        hold = ("hold", len(self.cut))
        self.cut.append(taken)
        self.put_part(("hear", taken[0].keeper, q), [asked, hold, taken[0].note])

    def go(self, hold, answer, note):
        """Lays back what is held: its asking part is answered, its keep has this note."""
        self.rows.append(("go", hold[1]))
        lowest, *above = self.cut[hold[1]]
        self.put_flight(Flight(lowest.keeper, note, list(lowest.parts)))
        for flight in above:
            self.put_flight(Flight(flight.keeper, flight.note, list(flight.parts)))
        self.answered(answer)


def by_stairs(program, f, args, bound):
    """The end, the count of steps and the book of a run of at most so many steps."""
    return run_within(Stairs(program, f, args), bound)
