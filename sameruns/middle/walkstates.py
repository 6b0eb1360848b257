"""The state of a run of a middle, and what each deed does to it."""

from sameruns.basics.operations import result


class OpenFlow:
    """An open function: its flow, the place of its next deed, its words and its local arrays."""

    def __init__(self, body, args):
        self.body = body
        self.words = [0] * body.count
        for param, arg in zip(body.params, args):
            self.words[param] = arg
        self.rows = [[0] * length for length in body.arrays]
        self.begin_block(0)

    def begin_block(self, number):
        """Continue at the first deed of a block."""
        self.number = number
        self.deeds = self.body.blocks[number]
        self.position = 0

    def open_call(self):
        """Return the deed of the call that is open here, which stands in front of the next deed."""
        return self.deeds[self.position - 1]


class WalkState:
    """All that a run of a middle has at one moment."""

    def __init__(self, middle, depth):
        self.depth = depth
        self.bodies = {flow.name: flow for flow in middle.flows}
        self.words = dict(middle.words)
        self.rows = {name: [0] * length for name, length in middle.arrays}
        self.frames = [OpenFlow(self.bodies["main"], ())]
        self.told = []
        self.end = None
        self.steps = 0
        self.rounds = 0


def drive_walk(state, rounds, steps):
    """Do deeds until the run has ended or one of the limits stops it."""
    while state.end is None and state.steps < steps:
        frame = state.frames[-1]
        deed = frame.deeds[frame.position]
        if deed[0] == "jump" and deed[1] <= frame.number:
            if state.rounds >= rounds:
                return
            state.rounds += 1
        state.steps += 1
        frame.position += 1
        action = ACTIONS[deed[0]]
        action(state, frame, deed)


def story_at(state, at):
    """Return the story at a deed with this chain."""
    story = []
    for frame in state.frames[:-1]:
        story.extend(frame.open_call()[4])
    return (*story, *at)


def trap(state, kind, at):
    """End the run by a trap at a deed with this chain."""
    state.end = ("trap", kind, story_at(state, at))


def row_of(state, frame, row):
    """Return the list of the items of an array: a local one by its number, a global one by its name."""
    return state.rows[row] if isinstance(row, str) else frame.rows[row]


def do_word(state, frame, deed):
    """Give a word to a variable."""
    frame.words[deed[1]] = deed[2]


def do_copy(state, frame, deed):
    """Give the word of a variable to another one."""
    frame.words[deed[1]] = frame.words[deed[2]]


def do_op(state, frame, deed):
    """Do an operation on two variables."""
    frame.words[deed[1]] = result(deed[2], frame.words[deed[3]], frame.words[deed[4]])


def do_with(state, frame, deed):
    """Do an operation on a variable and a word."""
    frame.words[deed[1]] = result(deed[2], frame.words[deed[3]], deed[4])


def do_read(state, frame, deed):
    """Read a global word."""
    frame.words[deed[1]] = state.words[deed[2]]


def do_load(state, frame, deed):
    """Read an item of an array."""
    row = row_of(state, frame, deed[2])
    index = frame.words[deed[3]]
    if 0 <= index < len(row):
        frame.words[deed[1]] = row[index]
    else:
        state.end = ("wild",)


def do_moves(state, frame, deed):
    """Move several words at once."""
    moved = [frame.words[source] for source in deed[2]]
    for target, word in zip(deed[1], moved):
        frame.words[target] = word


def do_skip(state, frame, deed):
    """Do nothing."""


def do_write(state, frame, deed):
    """Give a word to a global word."""
    state.words[deed[1]] = frame.words[deed[2]]


def do_store(state, frame, deed):
    """Give a word to an item of an array."""
    row = row_of(state, frame, deed[1])
    index = frame.words[deed[2]]
    if 0 <= index < len(row):
        row[index] = frame.words[deed[3]]
    else:
        state.end = ("wild",)


def do_nonzero(state, frame, deed):
    """Trap if a word is 0."""
    if frame.words[deed[1]] == 0:
        trap(state, "divide", deed[2])


def do_inside(state, frame, deed):
    """Trap if a word is no index of an array of this length."""
    if not 0 <= frame.words[deed[1]] < deed[2]:
        trap(state, "index", deed[3])


def do_depth(state, frame, deed):
    """Trap if this many further functions could not be opened."""
    if len(state.frames) + deed[1] > state.depth:
        trap(state, "depth", deed[2])


def do_call(state, frame, deed):
    """Open a function."""
    if len(state.frames) >= state.depth:
        trap(state, "depth", deed[4])
    else:
        args = [frame.words[variable] for variable in deed[3]]
        state.frames.append(OpenFlow(state.bodies[deed[2]], args))


def do_tell(state, frame, deed):
    """Tell a word."""
    state.told.append((frame.words[deed[1]], story_at(state, deed[2])))


def do_jump(state, frame, deed):
    """Go to a block."""
    frame.begin_block(deed[1])


def do_fork(state, frame, deed):
    """Go to one of two blocks."""
    frame.begin_block(deed[3] if frame.words[deed[1]] == 0 else deed[2])


def do_back(state, frame, deed):
    """Return a word to the caller, or end the run with it."""
    word = frame.words[deed[1]]
    if len(state.frames) == 1:
        state.end = ("end", word)
    else:
        state.frames.pop()
        caller = state.frames[-1]
        caller.words[caller.open_call()[1]] = word


ACTIONS = {
    "word": do_word, "copy": do_copy, "op": do_op, "with": do_with, "read": do_read, "load": do_load,
    "moves": do_moves, "skip": do_skip, "write": do_write, "store": do_store, "nonzero": do_nonzero,
    "inside": do_inside, "depth": do_depth, "call": do_call, "tell": do_tell, "jump": do_jump,
    "fork": do_fork, "back": do_back,
}
