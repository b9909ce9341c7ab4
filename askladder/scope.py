"""The kinds of the names in a part."""

from askladder.names import Names

NUM = ("num",)


def thing_kind(row_kind):
    """The kind of the things in a row of this kind."""
    if row_kind[0] == "nums":
        return NUM
    return ("hold", row_kind[1], row_kind[2])


class Scope(Names):
    """The pieces of a part with the kinds of the names; known is what the program has under each name."""

    def __init__(self, known, begun, body):
        Names.__init__(self, begun, body)
        self.known = known

    def pass_on(self, piece):
        """Behind a piece that was taken: its bodies are next."""
        self.lead_on(piece, self.binds_of(piece))

    def kind_of(self, atom):
        return self.of_name[atom] if isinstance(atom, str) else NUM

    def binds_of(self, piece):
        """A list of (name, kind): what the piece binds."""
        sort = piece[0]
        if sort in ("give", "tell", "if"):
            return []
        if sort == "case":
            row_kind = self.kind_of(piece[1])
            return [(piece[3], thing_kind(row_kind)), (piece[4], row_kind)]
        return [(piece[1], self.bound_kind(piece))]

    def bound_kind(self, piece):
        """The kind of the one name that the piece binds."""
        sort = piece[0]
        if sort == "sum":
            return NUM
        if sort == "empty":
            return piece[2]
        if sort in ("let", "last"):
            return self.kind_of(piece[2])
        if sort == "put":
            return self.kind_of(piece[3])
        return self.answer_kind(piece)

    def answer_kind(self, piece):
        """The kind of what comes back to a call, an ask, a keep or a go."""
        sort = piece[0]
        if sort == "call":
            return self.known.functions[piece[2]][2]
        if sort == "ask":
            return self.known.asks[piece[2]][2]
        keeper = piece[2] if sort == "keep" else self.kind_of(piece[2])[1]
        return self.known.keepers[keeper][3]
