"""A run on the plain ladder, up to a bound of steps."""

from askladder.walk import Walk


def ran(program, f, args, bound):
    """The end, the count of steps and the book of a run of at most so many steps."""
    walk = Walk(program, f, args)
    while walk.steps() < bound and walk.turn():
        pass
    end = walk.end()
    return (("dry",) if end is None else end, walk.steps(), walk.book())
