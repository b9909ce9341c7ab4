"""Which asks may come out of each part, and by which way."""

from askladder.outward import Outward


def unlike(things):
    """The things in their order, each once."""
    return list({thing: True for thing in things})


class Growing:
    """The asks of each part, found so far; they grow until each has all that its pieces let out."""

    def __init__(self, outward):
        self.outward = outward
        # A part has many pieces that do the same: once is enough of each.
        self.doings = {
            part: unlike([doing for number, doing in doings]) for part, doings in outward.doings.items()
        }
        self.kept = {
            keeper: unlike([f for part, number, f in keeps]) for keeper, keeps in outward.keeps.items()
        }
        self.asks = {part: {} for part in outward.doings}

    def asks_of_keep(self, keeper, f):
        found = [q for q in self.asks[("def", f)] if q not in self.outward.heard[keeper]]
        for part in self.outward.parts[keeper]:
            found.extend(list(self.asks[part]))
        return found

    def asks_of_doing(self, doing):
        sort, name = doing[:2]
        if sort == "ask":
            return [name]
        if sort == "call":
            return list(self.asks[("def", name)])
        if sort == "keep":
            return self.asks_of_keep(name, doing[2])
        found = []
        for f in self.kept[name]:
            found.extend(self.asks_of_keep(name, f))
        return found

    def grow(self, part):
        """True where an ask was found for the part that it hadn't yet."""
        mine = self.asks[part]
        many = len(mine)
        for doing in self.doings[part]:
            for q in self.asks_of_doing(doing):
                mine[q] = True
        return len(mine) > many


def asks_of(program):
    """A dict from the parts to the rising lists of the asks that may come out of them."""
    growing = Growing(Outward(program))
    parts = list(growing.asks)
    grown = True
    while grown:
        grown = False
        for part in parts:
            if growing.grow(part):
                grown = True
    return {part: sorted(growing.asks[part]) for part in parts}


class Search:
    """A search for an ask from a part on; each step is reached once, the nearest first."""

    def __init__(self, outward, q):
        self.outward = outward
        self.q = q
        self.entered = {}
        # Each step that was reached, to the one that led to it, or None.
        self.ahead = {}
        self.reached = []

    def reach(self, step, doing, ahead):
        if step in self.ahead:
            return
        self.ahead[step] = ahead
        self.reached.append((step, doing))

    def enter(self, part, ahead):
        """Reaches all of the part."""
        if part in self.entered:
            return
        self.entered[part] = True
        for number, doing in self.outward.doings[part]:
            self.reach((part, number), doing, ahead)

    def lead_on(self, step, doing):
        sort, name = doing[:2]
        if sort == "call":
            self.enter(("def", name), step)
        elif sort == "keep":
            if self.q not in self.outward.heard[name]:
                self.enter(("def", doing[2]), step)
            for part in self.outward.parts[name]:
                self.enter(part, step)
        elif sort == "go":
            for part, number, f in self.outward.keeps[name]:
                self.reach((part, number), ("keep", name, f), step)

    def way_to(self, step):
        way = []
        while step is not None:
            way.append(step)
            step = self.ahead[step]
        return way[::-1]


def way_of(program, part, q):
    """A list of (part, number of the piece) from the part to where it asks q, or None."""
    search = Search(Outward(program), q)
    search.enter(part, None)
    at = 0
    while at < len(search.reached):
        step, doing = search.reached[at]
        if doing == ("ask", q):
            return search.way_to(step)
        search.lead_on(step, doing)
        at += 1
    return None
