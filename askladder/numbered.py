"""A part as it is run by its pieces."""

from askladder.forms import atoms_of, bound_by
from askladder.parts import begun_with, body_of, pieces, second_numbers


class Numbered:
    """A part's pieces by their numbers, the names that it begins with, where second bodies begin.

    Names are dicts from the bound names to what they are; they are never changed.
    """

    def __init__(self, program, part):
        body = body_of(program, part)
        self.begun = [name for name, kind in begun_with(program, part)]
        self.pieces = pieces(body)
        self.seconds = second_numbers(body)

    def names_with(self, begun):
        """The names where the part begins with these."""
        return dict(zip(self.begun, begun))

    def worths(self, number, names):
        """What the atoms of the piece are, from the left."""
        return [names[atom] if isinstance(atom, str) else atom for atom in atoms_of(self.pieces[number])]

    def gone_on(self, number, names, second, worths):
        """Behind the piece: the number of the next, of its first or its second body, and the names there.

        worths is what the names that the piece binds are; of a case whose first body is next there are none.
        """
        following = self.seconds[number] if second else number + 1
        bound = dict(zip(bound_by(self.pieces[number]), worths))
        return following, {**names, **bound}
