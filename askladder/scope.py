"""Goes through a part piece by piece, with the kinds of the names bound above each."""

from askladder.errors import NoProgram
from askladder.forms import bodies_of

NUM = ("num",)


def thing_kind(row_kind):
    """The kind of the things in a row of this kind."""
    if row_kind[0] == "nums":
        return NUM
    return ("hold", row_kind[1], row_kind[2])


class Scope:
    """The pieces of a part, taken in order; known is what the program has under each name."""

    def __init__(self, known, begun, body):
        self.known = known
        self.kinds = {}
        self.bound = []
        # Each body still to be taken, with how many names stay bound above it, and those bound right ahead of it.
        self.waiting = [(body, 0, begun)]

    def has_more(self):
        return len(self.waiting) > 0

    def take(self):
        """The next piece; a name bound ahead of it that is bound above already is refused."""
        piece, stay, binds = self.waiting.pop()
        while len(self.bound) > stay:
            gone = self.bound.pop()
            del self.kinds[gone]
        for name, kind in binds:
            if name in self.kinds:
                raise NoProgram("twice", name)
            self.kinds[name] = kind
            self.bound.append(name)
        return piece

    def pass_on(self, piece):
        """Behind a piece that was taken: its bodies are next, its names bound ahead of the last of them."""
        below = bodies_of(piece)
        stay = len(self.bound)
        if below:
            self.waiting.append((below[-1], stay, self.binds_of(piece)))
        if len(below) == 2:
            self.waiting.append((below[0], stay, []))

    def kind_of(self, atom):
        return self.kinds[atom] if isinstance(atom, str) else NUM

    def binds_of(self, piece):
        """A list of (name, kind): what the piece binds."""
        sort = piece[0]
        if sort in ("give", "tell", "if"):
            return []
        if sort == "case":
            row_kind = self.kind_of(piece[1])
            return [(piece[3], thing_kind(row_kind)), (piece[4], row_kind)]
        return [(piece[1], self.bound_kind(piece))]

    def bound_kind(self, piece):
        """The kind of the one name that the piece binds."""
        sort = piece[0]
        if sort == "sum":
            return NUM
        if sort == "empty":
            return piece[2]
        if sort in ("let", "last"):
            return self.kind_of(piece[2])
        if sort == "put":
            return self.kind_of(piece[3])
        return self.answer_kind(piece)

    def answer_kind(self, piece):
        """The kind of what comes back to a call, an ask, a keep or a go."""
        sort = piece[0]
        if sort == "call":
            return self.known.functions[piece[2]][2]
        if sort == "ask":
            return self.known.asks[piece[2]][2]
        keeper = piece[2] if sort == "keep" else self.kind_of(piece[2])[1]
        return self.known.keepers[keeper][3]
