"""Makes sound programs by chance, from a number that is the same each time."""

import random

from askladder.reader import read
from askladder.errors import NoText
from askladder.writer import shown
from tests.programs import NUM, NUMS

LETTERS = "abcdefghijkmnopqrstuvwxyz"


class Maker:
    """Makes one program; hear has each keeper's asks, the kinds are drawn so that pieces fit often."""

    def __init__(self, seed):
        self.chance = random.Random(seed)
        chance = self.chance
        plain = [NUM, NUM, NUMS]
        self.asks = [(q, chance.choice(plain), chance.choice(plain)) for q in "qrst"[:chance.randint(1, 4)]]
        self.hear = {}
        for k in "klmo"[:chance.randint(1, 4)]:
            many = chance.choice([0, 1, len(self.asks), len(self.asks)])
            self.hear[k] = chance.sample([ask[0] for ask in self.asks], many)
        self.pairs = [(k, q) for k, heard in self.hear.items() for q in heard]
        self.heads = {k: (self.kind(), self.given_kind(), self.given_kind()) for k in self.hear}
        self.functions = [("main", [("a", NUM), ("b", NUMS)][:chance.randint(0, 2)], chance.choice(plain))]
        for f in "fguvw"[:chance.randint(2, 5)]:
            params = [(x, self.kind()) for x in "abcd"[:chance.randint(0, 3)]]
            kinds = [kind for _, kind in params] + [self.given_kind()] * 4
            self.functions.append((f, params, chance.choice(kinds)))

    def kind(self):
        kinds = [NUM] * 8 + [NUMS] * 2
        if self.pairs:
            kinds += [("hold", *self.chance.choice(self.pairs)), ("holds", *self.chance.choice(self.pairs))]
        return self.chance.choice(kinds)

    def given_kind(self):
        kinds = [NUM] * 14 + [NUMS]
        if self.pairs:
            kinds.append(("holds", *self.chance.choice(self.pairs)))
        return self.chance.choice(kinds)

    def atom(self, kinds, kind):
        """An atom of the kind, or None where there is none."""
        names = [name for name, of in kinds.items() if of == kind]
        if kind == NUM and (not names or self.chance.random() < 0.3):
            return self.chance.choice([0, 0, 1, 2, 7, 999999999])
        return self.chance.choice(names[-3:]) if names else None

    def atoms(self, kinds, due):
        found = [self.atom(kinds, kind) for kind in due]
        return None if None in found else tuple(found)

    def fresh(self, kinds, *more):
        return self.chance.choice([name for name in LETTERS if name not in kinds and name not in more])

    def leaf(self, kinds, gives):
        a = self.atom(kinds, gives)
        if a is not None:
            return ("give", a)
        x = self.fresh(kinds)
        return ("empty", x, gives, ("give", x))

    def body(self, kinds, gives, budget, at):
        """A body of about so many pieces; at is the number of the function, so that few call themselves."""
        if budget <= 1:
            return self.leaf(kinds, gives)
        sorts = ["let", "sum", "sum", "empty", "put", "last", "call", "call", "tell", "if", "case"]
        sorts += ["keep"] * (40, 20, 4)[min(at, 2)] + ["go"] * 12
        # Hears ask less than functions, else few runs come to an end.
        sorts += ["ask"] * (2 if any(kind[0] == "hold" for kind in kinds.values()) else (0, 4, 10)[min(at, 2)])
        make = getattr(self, "make_" + self.chance.choice(sorts))
        return make(kinds, gives, budget, at) or self.body(kinds, gives, budget - 0.2, at)

    def bound(self, head, kind, kinds, gives, budget, at):
        """A piece that binds a name of this kind, head what stands ahead of its body but for the name."""
        x = self.fresh(kinds)
        return (head[0], x, *head[1:], self.body({**kinds, x: kind}, gives, budget - 1, at))

    def make_let(self, kinds, *more):
        kind = self.kind()
        a = self.atom(kinds, kind)
        return None if a is None else self.bound(("let", a), kind, kinds, *more)

    def make_sum(self, kinds, *more):
        a, b = self.atoms(kinds, (NUM, NUM))
        return self.bound(("sum", self.chance.choice("+-*<="), a, b), NUM, kinds, *more)

    def row_kind(self):
        return ("holds", *self.chance.choice(self.pairs)) if self.pairs and self.chance.random() < 0.6 else NUMS

    def make_empty(self, kinds, *more):
        kind = self.row_kind()
        return self.bound(("empty", kind), kind, kinds, *more)

    def put_atoms(self, kinds, kind):
        return self.atoms(kinds, (NUM if kind == NUMS else ("hold", *kind[1:]), kind))

    def make_put(self, kinds, *more):
        kind = self.row_kind()
        found = self.put_atoms(kinds, kind)
        return found and self.bound(("put", *found), kind, kinds, *more)

    def make_last(self, kinds, *more):
        kind = self.row_kind()
        found = self.put_atoms(kinds, kind)
        return found and self.bound(("last", found[1], found[0]), kind, kinds, *more)

    def called(self, at):
        if self.chance.random() < 0.1 or at + 1 >= len(self.functions):
            return self.chance.choice(self.functions)
        return self.chance.choice(self.functions[at + 1:])

    def make_call(self, kinds, gives, budget, at):
        f, params, kind = self.called(at)
        args = self.atoms(kinds, [of for _, of in params])
        return None if args is None else self.bound(("call", f, args), kind, kinds, gives, budget, at)

    def make_ask(self, kinds, *more):
        heard = [q for _, q in self.pairs]
        asks = [ask for ask in self.asks if ask[0] in heard or self.chance.random() < 0.05] or self.asks
        q, asked, answered = self.chance.choice(asks)
        a = self.atom(kinds, asked)
        return None if a is None else self.bound(("ask", q, a), answered, kinds, *more)

    def make_keep(self, kinds, gives, budget, at):
        k = self.chance.choice(list(self.heads))
        f, params, kind = self.called(at)
        note, takes, given = self.heads[k]
        args = self.atoms(kinds, [note, *[of for _, of in params]])
        if args is None or kind != takes:
            return None
        return self.bound(("keep", k, args[0], f, args[1:]), given, kinds, gives, budget, at)

    def make_go(self, kinds, *more):
        holds = [name for name, kind in kinds.items() if kind[0] == "hold"]
        if not holds:
            return None
        h = self.chance.choice(holds)
        _, k, q = kinds[h]
        answered = next(ask[2] for ask in self.asks if ask[0] == q)
        found = self.atoms(kinds, (answered, self.heads[k][0]))
        return found and self.bound(("go", h, *found), self.heads[k][2], kinds, *more)

    def make_tell(self, kinds, gives, budget, at):
        return ("tell", self.atom(kinds, NUM), self.body(kinds, gives, budget - 1, at))

    def make_if(self, kinds, gives, budget, at):
        half = (budget - 1) / 2
        return ("if", self.atom(kinds, NUM), self.body(kinds, gives, half, at), self.body(kinds, gives, half, at))

    def make_case(self, kinds, gives, budget, at):
        kind = self.row_kind()
        r = self.atom(kinds, kind)
        if r is None:
            return None
        x = self.fresh(kinds)
        y = self.fresh(kinds, x)
        thing = NUM if kind == NUMS else ("hold", *kind[1:])
        half = (budget - 1) / 2
        return ("case", r, self.body(kinds, gives, half, at), x, y,
                self.body({**kinds, x: thing, y: kind}, gives, half, at))

    def keeper(self, k):
        note, takes, gives = self.heads[k]
        late = len(self.functions) - 1
        end = ("x", "n", self.body({"x": takes, "n": note}, gives, self.chance.randint(1, 4), late))
        hears = []
        for q in self.hear[k]:
            asked = next(ask[1] for ask in self.asks if ask[0] == q)
            kinds = {"x": asked, "h": ("hold", k, q), "n": note}
            hears.append((q, "x", "h", "n", self.body(kinds, gives, self.chance.randint(1, 9), late)))
        return (k, note, takes, gives, end, tuple(hears))

    def function(self, at):
        f, params, kind = self.functions[at]
        body = self.body(dict(params), kind, self.chance.randint(2, 12), at)
        return (f, tuple(params), kind, body)

    def program(self):
        keepers = tuple(self.keeper(k) for k in self.heads)
        return (tuple(self.asks), keepers, tuple(map(self.function, range(len(self.functions)))))


def made(seed):
    """A sound program whose function main has params of numbers and rows of numbers."""
    return Maker(seed).program()


def args_for(program, seed):
    chance = random.Random(seed)
    params = next(function for function in program[2] if function[0] == "main")[1]
    return [chance.choice([0, 1, 5]) if kind == NUM else [3, 4][:chance.randint(0, 2)] for _, kind in params]


def spoiled(program, seed):
    """The program with a few words of its text changed by chance, so long as it is still one of the forms."""
    chance = random.Random(seed)
    words = shown(program).replace("\n", " \n ").split(" ")
    free = [at for at, word in enumerate(words) if word.isalnum()]
    pool = [words[at] for at in free] + ["zz", "h", "x", "n", "0"]
    for _ in range(chance.randint(1, 8)):
        at = chance.choice(free)
        changed = list(words)
        changed[at] = chance.choice(pool)
        if chance.random() < 0.1:
            del changed[at]
        try:
            read(" ".join(changed).replace(" \n ", "\n"))
        except NoText:
            continue
        if len(changed) == len(words):
            words = changed
        else:
            return read(" ".join(changed).replace(" \n ", "\n"))
    return read(" ".join(words).replace(" \n ", "\n"))


class Tailed(Maker):
    """Makes programs in which parts often end by what another gives, and hears often by their last go."""

    def body(self, kinds, gives, budget, at):
        self.at = at
        return super().body(kinds, gives, budget, at)

    def leaf(self, kinds, gives):
        held = [name for name, kind in kinds.items() if kind[0] == "hold"]
        if "h" in held and "n" in kinds and self.chance.random() < 0.9:
            return self.gone(kinds, "h", gives) or super().leaf(kinds, gives)
        if self.chance.random() < 0.4:
            return super().leaf(kinds, gives)
        sort = self.chance.choice(["call", "call", "keep", "keep", "keep", "go"])
        if sort == "go":
            return (held and self.gone(kinds, self.chance.choice(held), gives)) or super().leaf(kinds, gives)
        f, params, kind = self.called(self.at)
        args = self.atoms(kinds, [of for _, of in params])
        x = self.fresh(kinds)
        keepers = [k for k, (_, takes, given) in self.heads.items() if (takes, given) == (kind, gives)]
        if args is not None and sort == "call" and kind == gives:
            return ("call", x, f, args, ("give", x))
        if args is not None and sort == "keep" and keepers:
            k = self.chance.choice(keepers)
            note = self.atom(kinds, self.heads[k][0])
            if note is not None:
                return ("keep", x, k, note, f, args, ("give", x))
        return super().leaf(kinds, gives)

    def gone(self, kinds, h, gives):
        """A go with h and a give of what comes of it, or None."""
        _, k, q = kinds[h]
        answered = next(ask[2] for ask in self.asks if ask[0] == q)
        found = self.atoms(kinds, (answered, self.heads[k][0]))
        x = self.fresh(kinds)
        return ("go", x, h, *found, ("give", x)) if found is not None and self.heads[k][2] == gives else None


def made_tailed(seed):
    """As made, but with more tails and last goes."""
    return Tailed(seed).program()


HEAR_BODIES = (
    "let s be x + n ; let y be go h s s ; give y",
    "let a be ask {q} x ; let y be go h a n ; give y",
    "let a be ask {own} x ; let y be go h a n ; give y",
    "let a be ask {q} x ; let b be ask {r} a ; let y be go h b a ; give y",
    "let a be keep {k} n {f} x ; let y be go h a a ; give y",
    "let a be call {f} x ; let y be go h a n ; give y",
    "if x : let a be ask {q} n ; let y be go h a 3 ; give y else let y be go h 7 n ; give y end",
    "let a be ask {q} x ; let y be go h a n ; let z be y + 1 ; give z",
    "let a be ask {q} x ; let y be call {goer} h a ; give y",
    "let a be keep {k} n {goer} h x ; give a",
    "let y be go h x n ; let z be go h y 1 ; let s be y + z ; give s",
    "let y be go h x 5 ; let z be call {goer} h y ; give z",
    "if n : let y be go h x 0 ; let z be go h y 0 ; give z else let y be go h x 1 ; give y end",
    "tell x ; give x",
)


class Stacked:
    """Makes programs whose keeps stand high, and whose hears ask and keep on their part; heard has who hears what."""

    def __init__(self, seed):
        self.chance = random.Random(seed)
        self.heard = {k: self.chance.sample("qrs", self.some([1, 2, 2, 3])) for k in "klm"}
        self.asks = sorted({q for heard in self.heard.values() for q in heard})

    def some(self, things):
        return self.chance.choice(things)

    def filled(self, form, own="q", goer="g"):
        return form.format(q=self.some(self.asks), r=self.some(self.asks), k=self.some("klm"), f=self.some("ghi"),
                           own=own, goer=goer)

    def body(self, many, deep):
        """A function's body of about so many pieces; deep are the functions that it may keep or call."""
        pieces = []
        bound = ["a"]
        for k in range(many):
            forms = ["let {x} be ask %s {a} ; " % self.some(self.asks)] * 4 + ["let {x} be {a} + {b} ; ", "tell {a} ; "]
            forms += ["let {x} be keep %s %d %s {a} ; " % (self.some("klm"), k, self.some(deep)),
                      "let {x} be call %s {a} ; " % self.some(deep)] if deep else []
            form = self.some(forms)
            pieces.append(form.format(x="bcde"[k], a=self.some([*bound, bound[-1]]), b=self.some(bound)))
            bound += ["bcde"[k]] if "{x}" in form else []
        if deep and self.chance.random() < 0.7:
            f = self.some(deep)
            pieces.append(self.some(["let z be keep %s %s %s %s ; " % (self.some("klm"), bound[-1], f, self.some(bound)),
                                     "let z be call %s %s ; " % (f, bound[-1])]))
            bound = ["z"]
        elif self.chance.random() < 0.5:
            pieces.append("let z be %s + %s ; " % (self.some(bound), bound[-1]))
            bound = ["z"]
        return "".join(pieces) + "give " + bound[-1]

    def keeper(self, k):
        yield "keeper %s note num takes num gives num" % k
        yield "end x n : " + self.filled(self.some(
            ["give x"] * 5 + ["let y be x + n ; give y", "let y be ask {q} x ; give y", "let y be call {f} x ; give y"]))
        for q in self.heard[k]:
            yield "hears %s x h n : %s" % (q, self.filled(self.some(HEAR_BODIES), q, "go" + k + q))

    def goer(self, k, q):
        return "def go%s%s h hold %s %s a num to num : %s" % (k, q, k, q, self.filled(self.some(
            ["let y be go h a a ; give y", "let b be ask {q} a ; let y be go h b a ; give y",
             "let y be go h a 0 ; tell y ; give y"])))

    def rows(self):
        for q in "qrs":
            yield "ask %s num to num" % q
        for k in "klm":
            yield from self.keeper(k)
        # The first three put a keep of each keeper, so that little is left unheard.
        for f, k, kept in zip(("main", "u", "v"), self.chance.sample("klm", 3), "uvw"):
            yield "def %s a num to num : let z be keep %s a %s a ; %s" % (
                f, k, kept, self.some(["give z", "give z", "let y be z + a ; give y"]))
        for f, deep, many in (("w", "gh", 4), ("g", "hi", 3), ("h", "i", 3), ("i", "", 3)):
            yield "def %s a num to num : %s" % (f, self.body(self.chance.randint(1, many), deep))

    def program(self):
        rows = list(self.rows())
        text = "\n".join(rows)
        rows += [self.goer(k, q) for k in "klm" for q in self.heard[k] if "go%s%s " % (k, q) in text]
        return read("\n".join(rows))


def made_stacked(seed):
    """A sound program whose function main has one number as its param."""
    return Stacked(seed).program()


QUIET_HEARS = (
    "let y be go h x n ; give y",
    "let s be x + n ; let m be s * 2 ; let y be go h m s ; give y",
    "if x : let y be go h n x ; give y else let y be go h 5 n ; give y end",
    "let e be empty nums ; let r be put x e ; case r none let y be go h 0 0 ; give y more v w : "
    "let y be go h v v ; give y end",
)
ROUSED_HEARS = (
    "let y be go h x n ; let z be go h y n ; give z",
    "let a be ask r x ; let y be go h a n ; give y",
    "tell x ; let y be go h x n ; give y",
    "let a be call i x ; let y be go h a n ; give y",
    "give x",
)


class Exchangeable(Stacked):
    """Makes programs in which keeps of functions that only keep stand in many places; few of them can't be exchanged."""

    def keeper(self, k):
        yield "keeper %s note num takes num gives num" % k
        yield "end x n : " + self.some(["give x"] * 12 + ["let y be x + n ; give y"])
        for q in self.heard[k]:
            yield "hears %s x h n : %s" % (q, self.some(QUIET_HEARS * 8 + ROUSED_HEARS))

    def __init__(self, seed):
        super().__init__(seed)
        self.heard = dict(zip("klmo", (["q"], ["r"], self.some([["s"], ["s", "q"], []]), ["t"])))
        self.asks = sorted({q for heard in self.heard.values() for q in heard})

    def rows(self):
        for q in "qrst":
            yield "ask %s num to num" % q
        for k in "klm":
            yield from self.keeper(k)
        yield "keeper o note num takes num gives num"
        yield "end x n : tell n ; give x"
        yield "hears t x h n : " + self.some(QUIET_HEARS[:1] + ROUSED_HEARS[:1])
        yield "def main a num to num : let x be keep o 7 u a 3 ; tell x ; give x"
        yield "def u a num b num to num : let x be %s ; let y be x + a ; give y" % self.some([
            "keep %s b v a b" % self.some("klm"), "keep %s 4 w b a" % self.some("klm"), "call v 2 a"])
        for f, under in (("v", "w"), ("w", "i")):
            yield "def %s a num b num to num : let z be keep %s %s %s %s ; %s" % (
                f, self.some("klm"), self.some(["a", "b", "9"]), under, "a b" if under == "w" else "b",
                self.some(["give z"] * 9 + ["give a", "tell z ; give z"]))
        yield "def i a num to num : " + self.body(3, "")


def made_exchangeable(seed):
    """A sound program whose function main has one number as its param."""
    return Exchangeable(seed).program()
