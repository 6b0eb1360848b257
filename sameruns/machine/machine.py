"""The machine."""

from sameruns.basics.runs import Run
from sameruns.machine.states import MachineState, drive_machine
from sameruns.machine.stories import story_of


class Machine:
    """A run of an image."""

    def __init__(self, image):
        self.state = MachineState(image)

    def go(self, *, rounds=1000, steps=100000):
        """Drive the run up to the limits."""
        drive_machine(self.state, rounds, steps)

    def run(self):
        """Return what has been done so far."""
        state = self.state
        return Run(tuple(state.told), state.end, state.steps, state.rounds)

    @property
    def address(self):
        """Return the address of the next instruction word."""
        return self.state.at

    @property
    def falls(self):
        """Return the number of the steps so far behind which the address was not greater."""
        return self.state.fallen

    def holds(self, number):
        """Return the word of a register."""
        return self.state.numbers[number]

    def cell(self, address):
        """Return the word of a memory cell, or None if there is none at this address."""
        return self.state.word_at(address)

    def story(self):
        """Return the story at the address."""
        return story_of(self.state)


def run_image(image, *, rounds=1000, steps=100000):
    """Return the run of a new machine that is driven with these limits."""
    machine = Machine(image)
    machine.go(rounds=rounds, steps=steps)
    return machine.run()
