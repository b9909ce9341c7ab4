"""A second ladder, written apart from the package.

Bodies are trees whose nodes have their numbers; the ladder is a chain of tuples, the highest first, that is
never changed; a hold is an object that has its links.
"""

from tests.programs import begin_of, keeper_named, parts_by_hand


class Held:
    def __init__(self, number, links):
        self.number = number
        self.links = links


def bodies(piece):
    """Where the bodies of the piece stand in it."""
    return {"give": (), "if": (2, 3), "case": (2, 5)}.get(piece[0], (len(piece) - 1,))


def tree(body, number):
    """(node, number behind all of its nodes); a node is (number, piece, nodes below)."""
    nodes = []
    behind = number + 1
    for at in bodies(body):
        node, behind = tree(body[at], behind)
        nodes.append(node)
    return (number, body, nodes), behind


def told(worth):
    if isinstance(worth, Held):
        return ("hold", worth.number)
    if isinstance(worth, tuple):
        return tuple(map(told, worth))
    return worth


class SecondRun:
    def __init__(self, program, f, args):
        self.program = program
        self.roots = {}
        self.begins = {}
        for part in parts_by_hand(program):
            kinds, body = begin_of(program, part)
            self.begins[part] = list(kinds)
            self.roots[part] = tree(body, 0)[0]
        self.count = 0
        self.many_holds = 0
        self.rows = []
        self.over = None
        self.top = self.part(("def", f), [tuple(a) if isinstance(a, (list, tuple)) else a for a in args], None)

    def part(self, part, worths, rest):
        return (("part", part, self.roots[part], tuple(zip(self.begins[part], worths))), rest)

    def links(self):
        found = []
        link = self.top
        while link is not None:
            found.append(link[0])
            link = link[1]
        return found[::-1]

    def ladder(self):
        return [("part", link[1], link[2][0], {x: told(v) for x, v in link[3]}) if link[0] == "part"
                else ("keep", link[1], told(link[2])) for link in self.links()]

    def bind(self, link, worth, rest):
        """What waits goes on, the name for which it waits being worth."""
        _, part, (_, piece, nodes), names = link
        return (("part", part, nodes[0], names + ((piece[1], worth),)), rest)

    def gives(self, worth, rest):
        if rest is None:
            self.over = ("gave", told(worth))
            return None
        link, under = rest
        if link[0] == "part":
            return self.bind(link, worth, under)
        self.rows.append(("ended", link[1]))
        return self.part(("end", link[1]), [worth, link[2]], under)

    def asks(self, q, worth):
        taken = []
        link = self.top
        while link is not None:
            (sort, *about), rest = link
            taken.insert(0, link[0])
            if sort == "keep" and q in [hear[0] for hear in keeper_named(self.program, about[0])[5]]:
                held = Held(self.many_holds, taken)
                self.many_holds += 1
                top = self.part(("hear", about[0], q), [worth, held, about[1]], rest)
                keeps = 0
                while rest is not None:
                    keeps += rest[0][0] == "keep"
                    rest = rest[1]
                self.rows.append(("ask", q, keeps))
                return top
            link = rest
        self.over = ("unheard", q, told(worth))
        return self.top

    def goes(self, held, answer, note):
        self.rows.append(("go", held.number))
        _, keeper, _ = held.links[0]
        top = (("keep", keeper, note), self.top)
        for link in held.links[1:-1]:
            top = (link, top)
        return self.bind(held.links[-1], answer, top)

    def turn(self):
        if self.over is not None:
            return False
        self.count += 1
        self.top = self.after()
        return self.over is None

    def after(self):
        link, rest = self.top
        _, part, (_, piece, nodes), names = link
        known = dict(names)

        def of(atom):
            return atom if isinstance(atom, int) else known[atom]

        def on(worth):
            return self.bind(link, worth, rest)

        match piece:
            case ("give", a):
                return self.gives(of(a), rest)
            case ("tell", a, _):
                self.rows.append(("tell", of(a)))
                return (("part", part, nodes[0], names), rest)
            case ("if", a, _, _):
                return (("part", part, nodes[of(a) == 0], names), rest)
            case ("case", r, _, x, y, _):
                if of(r) == ():
                    return (("part", part, nodes[0], names), rest)
                return (("part", part, nodes[1], names + ((x, of(r)[0]), (y, of(r)[1:]))), rest)
            case ("let", _, a, _):
                return on(of(a))
            case ("sum", _, "<", a, b, _):
                return on(int(of(a) < of(b)))
            case ("sum", _, "=", a, b, _):
                return on(int(of(a) == of(b)))
            case ("sum", _, sign, a, b, _):
                found = {"+": of(a) + of(b), "-": of(a) - of(b), "*": of(a) * of(b)}[sign]
                return on(found - found // 10 ** 9 * 10 ** 9)
            case ("empty", _, _, _):
                return on(())
            case ("put", _, a, r, _):
                return on((of(a),) + of(r))
            case ("last", _, r, a, _):
                return on(of(r) + (of(a),))
            case ("call", _, f, args, _):
                return self.part(("def", f), [of(a) for a in args], self.top)
            case ("keep", _, k, a, f, args, _):
                self.rows.append(("keep", k))
                return self.part(("def", f), [of(b) for b in args], (("keep", k, of(a)), self.top))
            case ("ask", _, q, a, _):
                return self.asks(q, of(a))
            case ("go", _, h, a, b, _):
                return self.goes(of(h), of(a), of(b))
