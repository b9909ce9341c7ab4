"""A second machine, written apart from the package.

Parts are trees with dicts of names, and nothing that stands is ever changed, so nothing need be copied: it is only
counted. What a screen hides lies in the screen, as a list of its own.
"""

from tests.programs import keeper_named
from tests.second_often import second_holds
from tests.second_run import SecondRun


class Kept:
    def __init__(self, number, word, rungs):
        self.number = number
        self.word = word
        self.rungs = rungs
        self.marked = False


def flat(rungs):
    """All rungs, those that screens hide too."""
    for rung in rungs:
        if rung[0] == "screen":
            yield from flat(rung[1])
        yield rung


def counted(rungs):
    return sum(rung[0] in ("part", "keep") for rung in flat(rungs))


def plain(worth):
    return tuple(worth) if isinstance(worth, list) else worth


class SecondMachine:
    """events counts what happened: passes put and counting, screens put, cuts with screens in them, marks, ..."""

    def __init__(self, program, f, args):
        ladder = SecondRun(program, f, args)
        self.program = program
        self.roots = ladder.roots
        self.begins = ladder.begins
        self.words = second_holds(program)
        self.rungs = [self.part(("def", f), map(plain, args))]
        self.passing = None
        self.count = self.holds = self.copied = self.most = 0
        self.rows = []
        self.over = None
        self.events = {}

    def event(self, name):
        self.events[name] = self.events.get(name, 0) + 1

    def part(self, part, worths):
        return ("part", part, self.roots[part], dict(zip(self.begins[part], worths)))

    def turn(self):
        self.count += 1
        self.most = max(self.most, counted(self.rungs))
        if self.passing is not None:
            self.pass_on()
        else:
            self.piece()

    def pass_on(self):
        left = self.rungs.pop()[1] - 1
        self.event("pass step")
        if left:
            self.rungs.append(("pass", left))
            return
        worth, self.passing = self.passing, None
        self.gives(worth)

    def gives(self, worth):
        """A part is off already, or a pass."""
        if self.rungs and self.rungs[-1][0] == "pass":
            if self.rungs[-1][1]:
                self.passing = worth
                return
            self.rungs.pop()
        if not self.rungs:
            self.over = ("gave", worth)
        elif self.rungs[-1][0] == "part":
            self.bind(worth)
        else:
            _, keeper, note = self.rungs.pop()
            self.rows.append(("ended", keeper))
            self.rungs.append(self.part(("end", keeper), [worth, note]))

    def bind(self, worth):
        _, part, (_, piece, nodes), names = self.rungs.pop()
        self.rungs.append(("part", part, nodes[0], {**names, piece[1]: worth}))

    def pass_more(self, more):
        """The pass on top counts so many more; there is one then."""
        many = self.rungs.pop()[1] if self.rungs and self.rungs[-1][0] == "pass" else 0
        self.rungs.append(("pass", many + more))

    def off(self, piece):
        """The running part goes off where the piece is a tail."""
        if piece[-1] == ("give", piece[1]):
            self.rungs.pop()
            self.pass_more(1)
            self.event("off by " + piece[0])

    def keeps(self):
        return [at for at, rung in enumerate(self.rungs) if rung[0] == "keep"]

    def asks(self, q, worth):
        places = self.keeps()
        for n, at in reversed(list(enumerate(places))):
            _, keeper, note = self.rungs[at]
            if q not in [hear[0] for hear in keeper_named(self.program, keeper)[5]]:
                continue
            self.rows.append(("ask", q, n))
            word = self.words[keeper, q]
            self.rungs, taken = self.rungs[:at], self.rungs[at:]
            self.event("heard " + word)
            if any(rung[0] == "screen" for rung in self.rungs):
                self.event("heard above a screen")
            if any(rung[0] == "screen" for rung in taken):
                self.event("screen in a screen" if word == "last" else "screen in a cut")
            held = Kept(self.holds, word, taken)
            self.holds += 1
            if word == "last":
                self.rungs.append(("screen", taken))
            self.rungs.append(self.part(("hear", keeper, q), [worth, held, note]))
            return
        self.over = ("unheard", q, worth)

    def goes(self, piece, held, answer, note):
        self.rows.append(("go", held.number))
        if held.word == "last":
            self.rungs.pop()
            rungs = self.rungs.pop()[1]
            self.event("last go")
        else:
            self.off(piece)
            rungs = held.rungs
            if held.word == "often" or held.marked:
                self.copied += counted(rungs)
                self.event("copied, marked" if held.marked else "copied")
                self.mark(rungs)
            else:
                self.event("laid as it is")
        self.pass_more(held.word == "last")
        self.rungs += [("keep", rungs[0][1], note), *rungs[1:]]
        self.bind(answer)

    def mark(self, rungs):
        if any(rung[0] == "screen" for rung in rungs):
            self.event("screen copied")
        if any(rung[0] == "pass" for rung in rungs):
            self.event("pass copied")
        for rung in flat(rungs):
            for worth in rung[3].values() if rung[0] == "part" else ():
                if isinstance(worth, Kept) and worth.word == "once":
                    worth.marked = True
                    self.event("mark")

    def piece(self):
        _, part, (_, piece, nodes), names = self.rungs[-1]

        def of(atom):
            return atom if isinstance(atom, int) else names[atom]

        def on(node, **binds):
            self.rungs[-1] = ("part", part, node, {**names, **binds})

        match piece:
            case ("give", a):
                self.rungs.pop()
                self.gives(of(a))
            case ("tell", a, _):
                self.rows.append(("tell", of(a)))
                on(nodes[0])
            case ("if", a, _, _):
                on(nodes[0] if of(a) else nodes[1])
            case ("case", r, _, x, y, _):
                if of(r):
                    on(nodes[1], **{x: of(r)[0], y: of(r)[1:]})
                else:
                    on(nodes[0])
            case ("call", _, f, args, _):
                handed = [of(a) for a in args]
                self.off(piece)
                self.rungs.append(self.part(("def", f), handed))
            case ("keep", _, k, a, f, args, _):
                self.rows.append(("keep", k))
                note, handed = of(a), [of(b) for b in args]
                self.off(piece)
                self.pass_more(0)
                self.rungs += [("keep", k, note), self.part(("def", f), handed)]
            case ("ask", _, q, a, _):
                self.asks(q, of(a))
            case ("go", _, h, a, b, _):
                self.goes(piece, of(h), of(a), of(b))
            case ("let", _, a, _):
                self.bind(of(a))
            case ("sum", _, sign, a, b, _):
                a, b = of(a), of(b)
                self.bind({"+": (a + b) % 10 ** 9, "-": (a - b) % 10 ** 9, "*": a * b % 10 ** 9,
                           "<": int(a < b), "=": int(a == b)}[sign])
            case ("empty", _, _, _):
                self.bind(())
            case ("put", _, a, r, _):
                self.bind((of(a),) + of(r))
            case ("last", _, r, a, _):
                self.bind(of(r) + (of(a),))

    def told(self):
        return (self.over or ("dry",), self.count, self.rows, self.copied, self.most)


def second_by_rows(program, f, args, bound, events=None):
    machine = SecondMachine(program, f, args)
    while machine.over is None and machine.count < bound:
        machine.turn()
    for name, many in machine.events.items() if events is not None else ():
        events[name] = events.get(name, 0) + many
    return machine.told()
