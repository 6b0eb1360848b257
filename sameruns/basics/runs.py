"""What is known of a run."""

from sameruns.basics.errors import BadDepth

MOST_DEPTH = 1000


class Run:
    """A run at one moment: what it has told, its end, its steps and its loop returns."""

    def __init__(self, told, end, steps, rounds):
        self.told = tuple(told)
        self.end = end
        self.steps = steps
        self.rounds = rounds

    def shown(self):
        """Return what every layer keeps: what was told, the end and the loop returns."""
        return (self.told, self.end, self.rounds)


def check_depth(depth):
    """Refuse a number of functions that cannot be the most that are open at once."""
    if not 1 <= depth <= MOST_DEPTH:
        raise BadDepth(depth)
