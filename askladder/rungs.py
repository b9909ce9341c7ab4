"""What stands on the machine's ladder, and what the machine holds."""


class Part:
    """A part that stands: its code's rows, the number of the row that it does next, its slots."""

    def __init__(self, rows, slots):
        self.rows = rows
        self.at = 0
        self.slots = slots

    def twin(self):
        other = Part(self.rows, list(self.slots))
        other.at = self.at
        return other

    def next_row(self):
        return self.rows[self.at]

    def worths_in_slots(self, atoms):
        return [self.slots[told] if sort == "slot" else told for sort, told in atoms]

    def gives_at_once(self):
        """True where right behind its row what that binds is given."""
        return self.rows[self.at + 1] == ("give", ("slot", self.next_row()[1]))

    def bind_on(self, following, slots, worths):
        """Binds the slots, and has the following row next."""
        for slot, worth in zip(slots, worths):
            self.slots[slot] = worth
        self.at = following


class Keep:
    """A keep that stands."""

    def __init__(self, keeper, note):
        self.keeper = keeper
        self.note = note

    def twin(self):
        return Keep(self.keeper, self.note)


class Pass:
    """In the place of so many parts that would only give on what they are given."""

    def __init__(self, many):
        self.many = many

    def twin(self):
        return Pass(self.many)


class Screen:
    """Hides all beneath it down to the keep that stands so many places lower."""

    def __init__(self, down):
        self.down = down

    def twin(self):
        return Screen(self.down)


class Hold:
    """What is held: its number, its hear's word, the rungs that were cut, and whether it lies in a copied part."""

    def __init__(self, number, word, rungs):
        self.number = number
        self.word = word
        self.rungs = rungs
        self.marked = False
