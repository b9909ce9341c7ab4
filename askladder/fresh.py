"""Names that a program doesn't have yet."""

from askladder.words import LETTERS, is_name
from askladder.writer import shown


def spelled(number):
    """The text of letters that has this number, from 0, the shorter ones first."""
    letters = []
    rest = number + 1
    while rest > 0:
        rest -= 1
        letters.append(LETTERS[rest % len(LETTERS)])
        rest = rest // len(LETTERS)
    return "".join(letters[::-1])


class Fresh:
    """New names, each told once, for a program: nothing in it is called so."""

    def __init__(self, program):
        # Whatever has a name, the name stands in the text.
        self.taken = {word: True for row in shown(program).split("\n") for word in row.split(" ")}
        self.tried = 0

    def new_name(self):
        name = ""
        while not is_name(name) or name in self.taken:
            name = spelled(self.tried)
            self.tried += 1
        return name
