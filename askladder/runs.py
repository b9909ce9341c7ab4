"""A run on the plain ladder, up to a bound of steps."""

from askladder.run import run_within
from askladder.walk import Walk


def ran(program, f, args, bound):
    """The end, the count of steps and the book of a run of at most so many steps."""
    return run_within(Walk(program, f, args), bound)
