"""The run of the source."""

from sameruns.basics.runs import Run, check_depth
from sameruns.source.states import State, drive


class Source:
    """A run of an accepted program."""

    def __init__(self, units, *, depth=32):
        check_depth(depth)
        self.state = State(units, depth)

    def go(self, *, rounds=1000, steps=100000):
        """Drive the run up to the limits."""
        drive(self.state, rounds, steps)

    def run(self):
        """Return what has been done so far."""
        state = self.state
        return Run(tuple(state.told), state.end, state.steps, state.rounds)


def run_source(units, *, depth=32, rounds=1000, steps=100000):
    """Return the run of a program that is driven with these limits."""
    source = Source(units, depth=depth)
    source.go(rounds=rounds, steps=steps)
    return source.run()
