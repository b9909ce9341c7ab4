"""Books, looked at by the names of asks and keepers alone."""

from askladder.errors import NoBook
from askladder.known import Known

TOP = 999999999


class Standing:
    """The keeps that stand by a book, as a row of keepers' names, and the rows that were cut off it."""

    def __init__(self, program):
        self.heard = Known(program).heard
        self.keepers = []
        self.held = []

    def hears_at(self, q, n):
        """True where the ask is heard by the keep of this number, and by none above it."""
        if not 0 <= n < len(self.keepers) or q not in self.heard[self.keepers[n]]:
            return False
        return not any([q in self.heard[keeper] for keeper in self.keepers[n + 1:]])

    def lets_by(self, row):
        """True where the row may be the next."""
        word, about = row[:2]
        if word == "keep":
            return about in self.heard
        if word == "ended":
            return len(self.keepers) > 0 and self.keepers[-1] == about
        if word == "ask":
            return self.hears_at(about, row[2])
        if word == "go":
            return 0 <= about < len(self.held)
        return 0 <= about <= TOP

    def do_row(self, row):
        """Does a row that is let by."""
        word, about = row[:2]
        if word == "keep":
            self.keepers.append(about)
        elif word == "ended":
            self.keepers.pop()
        elif word == "ask":
            self.held.append(self.keepers[row[2]:])
            del self.keepers[row[2]:]
        elif word == "go":
            self.keepers.extend(list(self.held[about]))


def check_book(program, book):
    """True where each row of the book may follow those ahead of it; else NoBook tells of the first that may not."""
    standing = Standing(program)
    for at, row in enumerate(book):
        if not standing.lets_by(row):
            raise NoBook(at)
        standing.do_row(row)
    return True


def summed(program, book):
    """How many keeps were put, asks heard by keeper, goes by hold, the numbers told, how many stood at most."""
    standing = Standing(program)
    heard = {keeper: 0 for keeper in standing.heard}
    gone = []
    most = 0
    for row in book:
        if row[0] == "ask":
            heard[standing.keepers[row[2]]] += 1
            gone.append(0)
        elif row[0] == "go":
            gone[row[1]] += 1
        standing.do_row(row)
        most = max(most, len(standing.keepers))
    kept = len([row for row in book if row[0] == "keep"])
    told = [row[1] for row in book if row[0] == "tell"]
    return (kept, heard, gone, told, most)
