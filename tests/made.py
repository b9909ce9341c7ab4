"""Makes sound programs by chance, from a number that is the same each time."""

import random

from askladder.reader import read
from askladder.errors import NoText
from askladder.writer import shown
from tests.programs import NUM, NUMS

LETTERS = "abcdefghijkmnopqrstuvwxyz"


class Maker:
    """Makes one program; hear has each keeper's asks, the kinds are drawn so that pieces fit often."""

    def __init__(self, seed):
        self.chance = random.Random(seed)
        chance = self.chance
        plain = [NUM, NUM, NUMS]
        self.asks = [(q, chance.choice(plain), chance.choice(plain)) for q in "qrst"[:chance.randint(1, 4)]]
        self.hear = {}
        for k in "klmo"[:chance.randint(1, 4)]:
            many = chance.choice([0, 1, len(self.asks), len(self.asks)])
            self.hear[k] = chance.sample([ask[0] for ask in self.asks], many)
        self.pairs = [(k, q) for k, heard in self.hear.items() for q in heard]
        self.heads = {k: (self.kind(), self.given_kind(), self.given_kind()) for k in self.hear}
        self.functions = [("main", [("a", NUM), ("b", NUMS)][:chance.randint(0, 2)], chance.choice(plain))]
        for f in "fguvw"[:chance.randint(2, 5)]:
            params = [(x, self.kind()) for x in "abcd"[:chance.randint(0, 3)]]
            kinds = [kind for _, kind in params] + [self.given_kind()] * 4
            self.functions.append((f, params, chance.choice(kinds)))

    def kind(self):
        kinds = [NUM] * 8 + [NUMS] * 2
        if self.pairs:
            kinds += [("hold", *self.chance.choice(self.pairs)), ("holds", *self.chance.choice(self.pairs))]
        return self.chance.choice(kinds)

    def given_kind(self):
        kinds = [NUM] * 14 + [NUMS]
        if self.pairs:
            kinds.append(("holds", *self.chance.choice(self.pairs)))
        return self.chance.choice(kinds)

    def atom(self, kinds, kind):
        """An atom of the kind, or None where there is none."""
        names = [name for name, of in kinds.items() if of == kind]
        if kind == NUM and (not names or self.chance.random() < 0.3):
            return self.chance.choice([0, 0, 1, 2, 7, 999999999])
        return self.chance.choice(names[-3:]) if names else None

    def atoms(self, kinds, due):
        found = [self.atom(kinds, kind) for kind in due]
        return None if None in found else tuple(found)

    def fresh(self, kinds, *more):
        return self.chance.choice([name for name in LETTERS if name not in kinds and name not in more])

    def leaf(self, kinds, gives):
        a = self.atom(kinds, gives)
        if a is not None:
            return ("give", a)
        x = self.fresh(kinds)
        return ("empty", x, gives, ("give", x))

    def body(self, kinds, gives, budget, at):
        """A body of about so many pieces; at is the number of the function, so that few call themselves."""
        if budget <= 1:
            return self.leaf(kinds, gives)
        sorts = ["let", "sum", "sum", "empty", "put", "last", "call", "call", "tell", "if", "case"]
        sorts += ["keep"] * (40, 20, 4)[min(at, 2)] + ["go"] * 12
        # Hears ask less than functions, else few runs come to an end.
        sorts += ["ask"] * (2 if any(kind[0] == "hold" for kind in kinds.values()) else (0, 4, 10)[min(at, 2)])
        make = getattr(self, "make_" + self.chance.choice(sorts))
        return make(kinds, gives, budget, at) or self.body(kinds, gives, budget - 0.2, at)

    def bound(self, head, kind, kinds, gives, budget, at):
        """A piece that binds a name of this kind, head what stands ahead of its body but for the name."""
        x = self.fresh(kinds)
        return (head[0], x, *head[1:], self.body({**kinds, x: kind}, gives, budget - 1, at))

    def make_let(self, kinds, *more):
        kind = self.kind()
        a = self.atom(kinds, kind)
        return None if a is None else self.bound(("let", a), kind, kinds, *more)

    def make_sum(self, kinds, *more):
        a, b = self.atoms(kinds, (NUM, NUM))
        return self.bound(("sum", self.chance.choice("+-*<="), a, b), NUM, kinds, *more)

    def row_kind(self):
        return ("holds", *self.chance.choice(self.pairs)) if self.pairs and self.chance.random() < 0.6 else NUMS

    def make_empty(self, kinds, *more):
        kind = self.row_kind()
        return self.bound(("empty", kind), kind, kinds, *more)

    def put_atoms(self, kinds, kind):
        return self.atoms(kinds, (NUM if kind == NUMS else ("hold", *kind[1:]), kind))

    def make_put(self, kinds, *more):
        kind = self.row_kind()
        found = self.put_atoms(kinds, kind)
        return found and self.bound(("put", *found), kind, kinds, *more)

    def make_last(self, kinds, *more):
        kind = self.row_kind()
        found = self.put_atoms(kinds, kind)
        return found and self.bound(("last", found[1], found[0]), kind, kinds, *more)

    def called(self, at):
        if self.chance.random() < 0.1 or at + 1 >= len(self.functions):
            return self.chance.choice(self.functions)
        return self.chance.choice(self.functions[at + 1:])

    def make_call(self, kinds, gives, budget, at):
        f, params, kind = self.called(at)
        args = self.atoms(kinds, [of for _, of in params])
        return None if args is None else self.bound(("call", f, args), kind, kinds, gives, budget, at)

    def make_ask(self, kinds, *more):
        heard = [q for _, q in self.pairs]
        asks = [ask for ask in self.asks if ask[0] in heard or self.chance.random() < 0.05] or self.asks
        q, asked, answered = self.chance.choice(asks)
        a = self.atom(kinds, asked)
        return None if a is None else self.bound(("ask", q, a), answered, kinds, *more)

    def make_keep(self, kinds, gives, budget, at):
        k = self.chance.choice(list(self.heads))
        f, params, kind = self.called(at)
        note, takes, given = self.heads[k]
        args = self.atoms(kinds, [note, *[of for _, of in params]])
        if args is None or kind != takes:
            return None
        return self.bound(("keep", k, args[0], f, args[1:]), given, kinds, gives, budget, at)

    def make_go(self, kinds, *more):
        holds = [name for name, kind in kinds.items() if kind[0] == "hold"]
        if not holds:
            return None
        h = self.chance.choice(holds)
        _, k, q = kinds[h]
        answered = next(ask[2] for ask in self.asks if ask[0] == q)
        found = self.atoms(kinds, (answered, self.heads[k][0]))
        return found and self.bound(("go", h, *found), self.heads[k][2], kinds, *more)

    def make_tell(self, kinds, gives, budget, at):
        return ("tell", self.atom(kinds, NUM), self.body(kinds, gives, budget - 1, at))

    def make_if(self, kinds, gives, budget, at):
        half = (budget - 1) / 2
        return ("if", self.atom(kinds, NUM), self.body(kinds, gives, half, at), self.body(kinds, gives, half, at))

    def make_case(self, kinds, gives, budget, at):
        kind = self.row_kind()
        r = self.atom(kinds, kind)
        if r is None:
            return None
        x = self.fresh(kinds)
        y = self.fresh(kinds, x)
        thing = NUM if kind == NUMS else ("hold", *kind[1:])
        half = (budget - 1) / 2
        return ("case", r, self.body(kinds, gives, half, at), x, y,
                self.body({**kinds, x: thing, y: kind}, gives, half, at))

    def keeper(self, k):
        note, takes, gives = self.heads[k]
        late = len(self.functions) - 1
        end = ("x", "n", self.body({"x": takes, "n": note}, gives, self.chance.randint(1, 4), late))
        hears = []
        for q in self.hear[k]:
            asked = next(ask[1] for ask in self.asks if ask[0] == q)
            kinds = {"x": asked, "h": ("hold", k, q), "n": note}
            hears.append((q, "x", "h", "n", self.body(kinds, gives, self.chance.randint(1, 9), late)))
        return (k, note, takes, gives, end, tuple(hears))

    def function(self, at):
        f, params, kind = self.functions[at]
        body = self.body(dict(params), kind, self.chance.randint(2, 12), at)
        return (f, tuple(params), kind, body)

    def program(self):
        keepers = tuple(self.keeper(k) for k in self.heads)
        return (tuple(self.asks), keepers, tuple(map(self.function, range(len(self.functions)))))


def made(seed):
    """A sound program whose function main has params of numbers and rows of numbers."""
    return Maker(seed).program()


def args_for(program, seed):
    chance = random.Random(seed)
    params = next(function for function in program[2] if function[0] == "main")[1]
    return [chance.choice([0, 1, 5]) if kind == NUM else [3, 4][:chance.randint(0, 2)] for _, kind in params]


def spoiled(program, seed):
    """The program with a few words of its text changed by chance, so long as it is still one of the forms."""
    chance = random.Random(seed)
    words = shown(program).replace("\n", " \n ").split(" ")
    free = [at for at, word in enumerate(words) if word.isalnum()]
    pool = [words[at] for at in free] + ["zz", "h", "x", "n", "0"]
    for _ in range(chance.randint(1, 8)):
        at = chance.choice(free)
        changed = list(words)
        changed[at] = chance.choice(pool)
        if chance.random() < 0.1:
            del changed[at]
        try:
            read(" ".join(changed).replace(" \n ", "\n"))
        except NoText:
            continue
        if len(changed) == len(words):
            words = changed
        else:
            return read(" ".join(changed).replace(" \n ", "\n"))
    return read(" ".join(words).replace(" \n ", "\n"))
