"""Each part's code: a row for each piece, a slot for each name."""

from askladder.forms import atoms_of, bound_by, head_with
from askladder.names import Names
from askladder.parts import all_parts, begun_with, body_of, second_numbers


class Slots(Names):
    """The pieces of a part with the slots of the names; many is how many slots there are so far."""

    def __init__(self, begun, body):
        Names.__init__(self, [(name, slot) for slot, name in enumerate(begun)], body)
        self.many = len(begun)

    def new_slots(self, piece):
        """A list of (name, slot): those that the piece binds. Each call gives new ones."""
        first = self.many
        names = bound_by(piece)
        self.many += len(names)
        return [(name, first + k) for k, name in enumerate(names)]

    def coded(self, atom):
        return ("slot", self.of_name[atom]) if isinstance(atom, str) else ("lit", atom)


def part_code(program, part):
    """The part's code: (how many slots it has, a list of its rows)."""
    body = body_of(program, part)
    seconds = second_numbers(body)
    slots = Slots([name for name, kind in begun_with(program, part)], body)
    rows = []
    while slots.has_more():
        piece = slots.take()
        binds = slots.new_slots(piece)
        row = head_with(piece, [slots.coded(atom) for atom in atoms_of(piece)], [slot for name, slot in binds])
        number = len(rows)
        rows.append((*row, seconds[number]) if number in seconds else row)
        slots.lead_on(piece, binds)
    return (slots.many, rows)


def code_of(program):
    """A dict from the parts to their code."""
    return {part: part_code(program, part) for part in all_parts(program)}
