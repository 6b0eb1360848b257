"""The run of a middle."""

from sameruns.basics.runs import Run, check_depth
from sameruns.middle.walkstates import WalkState, drive_walk


class Walker:
    """A run of a middle."""

    def __init__(self, middle, *, depth=32):
        check_depth(depth)
        self.state = WalkState(middle, depth)

    def go(self, *, rounds=1000, steps=100000):
        """Drive the run up to the limits."""
        drive_walk(self.state, rounds, steps)

    def run(self):
        """Return what has been done so far."""
        state = self.state
        return Run(tuple(state.told), state.end, state.steps, state.rounds)

    def place(self):
        """Return the tuple (function, block, position) of the next deed."""
        frame = self.state.frames[-1]
        return (frame.body.name, frame.number, frame.position)

    def variables(self):
        """Return a list of the words of the variables of the innermost open function."""
        return list(self.state.frames[-1].words)

    def local_items(self):
        """Return a list with the list of the items of each local array of the innermost open function."""
        return [list(row) for row in self.state.frames[-1].rows]

    def opened(self):
        """Return the number of the open functions."""
        return len(self.state.frames)

    def global_word(self, name):
        """Return the word of a global word."""
        return self.state.words[name]

    def global_items(self, name):
        """Return a list of the items of a global array."""
        return list(self.state.rows[name])


def run_middle(middle, *, depth=32, rounds=1000, steps=100000):
    """Return the run of a middle that is driven with these limits."""
    walker = Walker(middle, depth=depth)
    walker.go(rounds=rounds, steps=steps)
    return walker.run()
