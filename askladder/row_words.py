"""One row of a text, taken word by word."""

from askladder.errors import NoText
from askladder.words import is_figures, is_name


class RowWords:
    """The words of a row, from the left; what doesn't fit is refused with the row's number."""

    def __init__(self, number, row):
        self.number = number
        self.words = row.split(" ")
        self.taken = 0

    def peek(self):
        """The next word; behind the last one the text without signs, a word that stands in no row."""
        if self.taken < len(self.words):
            return self.words[self.taken]
        return ""

    def take(self):
        word = self.peek()
        self.taken += 1
        return word

    def expect(self, word):
        if self.take() != word:
            raise NoText(self.number)

    def finish(self):
        if self.taken != len(self.words):
            raise NoText(self.number)

    def take_name(self):
        word = self.take()
        if not is_name(word):
            raise NoText(self.number)
        return word

    def take_atom(self):
        if is_figures(self.peek()):
            return int(self.take())
        return self.take_name()

    def take_args(self):
        """The atoms ahead of the semicolon."""
        atoms = []
        while self.peek() != ";":
            atoms.append(self.take_atom())
        return tuple(atoms)

    def take_kind(self):
        word = self.take()
        if word in ("num", "nums"):
            return (word,)
        if word not in ("hold", "holds"):
            raise NoText(self.number)
        return (word, self.take_name(), self.take_name())

    def take_row_kind(self):
        """The kind of a row of things."""
        if self.peek() not in ("nums", "holds"):
            raise NoText(self.number)
        return self.take_kind()
