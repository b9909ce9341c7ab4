"""The refusals: each tells by its fields what is refused and where."""


class AskError(ValueError):
    """Any refusal."""


class NoText(AskError):
    """The text is none of a program; row is the number of the first row by which it can't be one."""

    def __init__(self, row):
        self.row = row


class NoProgram(AskError):
    """The program isn't sound; word tells why, name what is refused."""

    def __init__(self, word, name):
        self.word = word
        self.name = name


class NoBook(AskError):
    """The book is none of the program; at is the number of the first row that isn't so."""

    def __init__(self, at):
        self.at = at


class NoTurn(AskError):
    """The program can't be turned there."""


class NoRow(AskError):
    """The desk can't answer the row."""
