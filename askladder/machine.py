"""The machine: rows of code on one ladder, which is cut and laid back."""

from askladder.codes import code_of
from askladder.doing import do_piece, plain_args
from askladder.forms import atoms_of
from askladder.known import Known
from askladder.often import hold_words
from askladder.rungs import Hold, Keep, Part, Pass, Screen


def many_counted(rungs):
    """How many parts and keeps are among the rungs."""
    return len([rung for rung in rungs if isinstance(rung, Part) or isinstance(rung, Keep)])


def mark_holds(part):
    """Marks what lies in the part's slots and was held to be gone on with once."""
    for worth in part.slots:
        if isinstance(worth, Hold) and worth.word == "once":
            worth.marked = True


class Machine:
    """A run of the function f; given is what a pass gives on, None where no pass does."""

    def __init__(self, program, f, handed):
        self.heard = Known(program).heard
        self.code = code_of(program)
        self.words = hold_words(program)
        self.standing = []
        self.rows = []
        self.done = 0
        self.ended = None
        self.given = None
        self.many_held = 0
        self.copied = 0
        self.most = 0
        self.put_part(("def", f), plain_args(handed))

    def step(self):
        """Does the next row, or gives on once."""
        self.done += 1
        self.most = max(self.most, many_counted(self.standing))
        if self.given is None:
            part = self.standing[-1]
            row = part.next_row()
            do_piece(self, row, part.worths_in_slots(atoms_of(row)))
        else:
            self.give_on()

    def put_part(self, part, begun):
        many, rows = self.code[part]
        self.standing.append(Part(rows, begun + [None] * (many - len(begun))))

    def put_pass(self):
        """Puts a pass where none is the highest."""
        if not self.standing or not isinstance(self.standing[-1], Pass):
            self.standing.append(Pass(0))

    def put_keep(self, keep):
        self.put_pass()
        self.standing.append(keep)

    def put_off(self):
        """The highest part goes off, a pass in its place, where it only gives on what its row binds."""
        if self.standing[-1].gives_at_once():
            self.standing.pop()
            self.put_pass()
            self.count_more(len(self.standing) - 1)

    def count_more(self, at):
        counting = self.standing[at]
        counting.many += 1

    def answered(self, given):
        part = self.standing[-1]
        part.bind_on(part.at + 1, [part.next_row()[1]], [given])

    def tell(self, number):
        self.rows.append(("tell", number))
        part = self.standing[-1]
        part.bind_on(part.at + 1, [], [])

    def choose(self, second, worths):
        part = self.standing[-1]
        row = part.next_row()
        part.bind_on(row[-1] if second else part.at + 1, row[2:-1], worths)

    def call(self, f, handed):
        self.put_off()
        self.put_part(("def", f), handed)

    def keep(self, keeper, note, f, handed):
        self.put_off()
        self.rows.append(("keep", keeper))
        self.put_keep(Keep(keeper, note))
        self.put_part(("def", f), handed)

    def give(self, given):
        self.standing.pop()
        self.hand_down(given)

    def hand_down(self, given):
        """What is given comes to the highest; a pass that counts has steps of its own for it."""
        if self.standing and isinstance(self.standing[-1], Pass):
            if self.standing[-1].many > 0:
                self.given = given
                return
            self.standing.pop()
        if not self.standing:
            self.ended = ("gave", given)
        elif isinstance(self.standing[-1], Part):
            self.answered(given)
        else:
            keep = self.standing.pop()
            self.rows.append(("ended", keep.keeper))
            self.put_part(("end", keep.keeper), [given, keep.note])

    def give_on(self):
        """A step of the pass that is the highest."""
        self.count_less()
        if self.standing[-1].many == 0:
            given = self.given
            self.given = None
            self.hand_down(given)

    def count_less(self):
        counting = self.standing[-1]
        counting.many -= 1

    def keeps_seen(self):
        """The places of the keeps from the highest down, but for those that screens hide."""
        places = []
        at = len(self.standing) - 1
        while at >= 0:
            rung = self.standing[at]
            if isinstance(rung, Screen):
                at -= rung.down
            elif isinstance(rung, Keep):
                places.append(at)
            at -= 1
        return places

    def ask(self, q, asked):
        seen = self.keeps_seen()
        for k, at in enumerate(seen):
            if q in self.heard[self.standing[at].keeper]:
                self.rows.append(("ask", q, len(seen) - k - 1))
                self.hear(q, asked, at)
                return
        self.ended = ("unheard", q, asked)

    def hear(self, q, asked, at):
        """The keep at this place hears the ask: what stands from it on is cut, or hidden by a screen."""
        keep = self.standing[at]
        word = self.words[(keep.keeper, q)]
        if word == "last":
            hold = Hold(self.many_held, word, [])
            self.standing.append(Screen(len(self.standing) - at))
        else:
            hold = Hold(self.many_held, word, self.standing[at:])
            del self.standing[at:]
        self.many_held += 1
        self.put_part(("hear", keep.keeper, q), [asked, hold, keep.note])

    def go(self, hold, answer, note):
        self.rows.append(("go", hold.number))
        if hold.word == "last":
            self.go_last(note)
        else:
            self.put_off()
            self.lay_back(hold, note)
        self.answered(answer)

    def go_last(self, note):
        """The hear's part and the screen go off; what that part would give on the pass beneath the keep does."""
        self.standing.pop()
        screen = self.standing.pop()
        at = len(self.standing) - screen.down
        keep = self.standing[at]
        keep.note = note
        self.count_more(at - 1)

    def lay_back(self, hold, note):
        rungs = hold.rungs
        if hold.word != "once" or hold.marked:
            rungs = self.copies(rungs)
        keep, *above = rungs
        keep.note = note
        self.put_keep(keep)
        self.standing.extend(above)

    def copies(self, rungs):
        self.copied += many_counted(rungs)
        for rung in rungs:
            if isinstance(rung, Part):
                mark_holds(rung)
        return [rung.twin() for rung in rungs]


def by_rows(program, f, args, bound):
    """The end, the count of steps, the book, how much was copied and how much stood at most."""
    machine = Machine(program, f, args)
    while machine.done < bound and machine.ended is None:
        machine.step()
    end = ("dry",) if machine.ended is None else machine.ended
    return (end, machine.done, machine.rows, machine.copied, machine.most)
