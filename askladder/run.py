"""What runs by pieces share, however they keep the parts that stand."""

from askladder.doing import do_piece
from askladder.numbered import Numbered
from askladder.parts import all_parts


class Run:
    """A run by pieces: the parts by their pieces, the rows of its book, the count of its steps, its end.

    Of who comes of it go_on and put_part are due.
    """

    def __init__(self, program):
        self.numbered = {part: Numbered(program, part) for part in all_parts(program)}
        self.rows = []
        self.done = 0
        self.ended = None

    def do_next(self, part, number, names):
        """Does this piece of the part, which is the highest."""
        self.done += 1
        numbered = self.numbered[part]
        do_piece(self, numbered.pieces[number], numbered.worths(number, names))

    def answered(self, given):
        self.go_on(False, [given])

    def tell(self, number):
        self.rows.append(("tell", number))
        self.go_on(False, [])

    def choose(self, second, worths):
        self.go_on(second, worths)

    def call(self, f, handed):
        self.put_part(("def", f), handed)


def run_within(run, bound):
    """The end, the count of steps and the book of the run, let do at most so many steps."""
    while run.steps() < bound and run.turn():
        pass
    end = run.end()
    return (("dry",) if end is None else end, run.steps(), run.book())
