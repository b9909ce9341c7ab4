"""Goes through a part piece by piece, with what is told of each name that is bound above."""

from askladder.errors import NoProgram
from askladder.forms import bodies_of


class Names:
    """The pieces of a part, taken in order; of_name has what is told of each name bound above."""

    def __init__(self, begun, body):
        self.of_name = {}
        self.bound = []
        # Each body still to be taken, with how many names stay bound above it, and those bound right ahead of it.
        self.waiting = [(body, 0, begun)]

    def has_more(self):
        return len(self.waiting) > 0

    def take(self):
        """The next piece; a name bound ahead of it that is bound above already is refused."""
        piece, stay, binds = self.waiting.pop()
        while len(self.bound) > stay:
            gone = self.bound.pop()
            del self.of_name[gone]
        for name, told in binds:
            if name in self.of_name:
                raise NoProgram("twice", name)
            self.of_name[name] = told
            self.bound.append(name)
        return piece

    def lead_on(self, piece, binds):
        """Behind a piece that was taken: its bodies are next; it binds these, as (name, what is told of it)."""
        below = bodies_of(piece)
        stay = len(self.bound)
        if below:
            self.waiting.append((below[-1], stay, binds))
        if len(below) == 2:
            self.waiting.append((below[0], stay, []))
