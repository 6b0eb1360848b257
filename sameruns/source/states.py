"""The state of a run of the source, and what each kind of step does to it."""

from sameruns.basics.operations import result
from sameruns.lang.units import functions_of
from sameruns.source.steps import steps_of


class Body:
    """A function that can be entered."""

    def __init__(self, function):
        self.name = function[1]
        self.params = function[2]
        self.local_rows = function[3]
        self.steps = steps_of(function)


class Frame:
    """An open function: its words, arrays, the next step, and the values that wait for an operator."""

    def __init__(self, body, args):
        self.body = body
        self.words = dict(zip(body.params, args))
        self.arrays = {}
        for row in body.local_rows:
            if row[0] == "word":
                self.words[row[1]] = 0
            else:
                self.arrays[row[1]] = [0] * row[2]
        self.at = 0
        self.number = 0
        self.waiting = []


class State:
    """All that a run of a program has at one moment."""

    def __init__(self, units, depth):
        self.depth = depth
        self.bodies = {}
        self.words = {}
        self.arrays = {}
        for unit in units:
            for function in functions_of(unit):
                self.bodies[function[1]] = Body(function)
            for row in unit.declarations:
                if row[0] == "word":
                    self.words[row[1]] = row[2]
                elif row[0] == "array":
                    self.arrays[row[1]] = [0] * row[2]
        self.frames = [Frame(self.bodies["main"], ())]
        self.told = []
        self.end = None
        self.steps = 0
        self.rounds = 0


def drive(state, rounds, steps):
    """Do steps until the run has ended or one of the limits stops it."""
    while state.end is None and state.steps < steps:
        frame = state.frames[-1]
        kind, x, y, after, jump = frame.body.steps[frame.at]
        if kind == "round" and state.rounds >= rounds:
            return
        state.steps += 1
        frame.at = after
        action = ACTIONS[kind]
        action(state, frame, x, y, jump)


def story(state):
    """Return the place of the statement that each open function executes, the outermost first."""
    return tuple([(frame.body.name, frame.number) for frame in state.frames])


def trap(state, kind):
    """End the run by a trap of the statement that is being executed."""
    state.end = ("trap", kind, story(state))


def begin(state, frame, x, y, jump):
    """Begin the statement with the number x."""
    frame.number = x


def give_number(state, frame, x, y, jump):
    """Evaluate the number x."""
    frame.waiting.append(x)


def give_variable(state, frame, x, y, jump):
    """Evaluate the variable x, which is local if y is True."""
    frame.waiting.append(frame.words[x] if y else state.words[x])


def finish_unary(state, frame, x, y, jump):
    """Finish the operator x before an operand."""
    value = frame.waiting.pop()
    if x == "-":
        frame.waiting.append(result("sub", 0, value))
    elif x == "~":
        frame.waiting.append(result("xor", value, -1))
    else:
        frame.waiting.append(result("eq", value, 0))


def finish_binary(state, frame, x, y, jump):
    """Finish an operator by the operation x, on the right operand and the left one if y is True."""
    right = frame.waiting.pop()
    left = frame.waiting.pop()
    frame.waiting.append(result(x, right, left) if y else result(x, left, right))


def finish_division(state, frame, x, y, jump):
    """Finish a division by the operation x."""
    right = frame.waiting.pop()
    left = frame.waiting.pop()
    if right == 0:
        trap(state, "divide")
    else:
        frame.waiting.append(result(x, left, right))


def row_of(state, frame, name, is_inner):
    """Return the list of the items of an array."""
    return frame.arrays[name] if is_inner else state.arrays[name]


def finish_item(state, frame, x, y, jump):
    """Finish an item of the array x, which is local if y is True."""
    row = row_of(state, frame, x, y)
    index = frame.waiting.pop()
    if 0 <= index < len(row):
        frame.waiting.append(row[index])
    else:
        trap(state, "index")


def look_at_and(state, frame, x, y, jump):
    """Look at the left operand of &&, which is the answer if it is 0."""
    if frame.waiting.pop() == 0:
        frame.waiting.append(0)
        frame.at = jump


def look_at_or(state, frame, x, y, jump):
    """Look at the left operand of ||, after which the answer is 1 if it is not 0."""
    if frame.waiting.pop() != 0:
        frame.waiting.append(1)
        frame.at = jump


def finish_truth(state, frame, x, y, jump):
    """Finish && or || by the right operand."""
    frame.waiting.append(0 if frame.waiting.pop() == 0 else 1)


def enter(state, frame, x, y, jump):
    """Enter the function x with y arguments."""
    if len(state.frames) >= state.depth:
        trap(state, "depth")
        return
    first = len(frame.waiting) - y
    args = frame.waiting[first:]
    del frame.waiting[first:]
    state.frames.append(Frame(state.bodies[x], args))


def finish_set(state, frame, x, y, jump):
    """Finish the assignment to the word x, which is local if y is True."""
    if y:
        frame.words[x] = frame.waiting.pop()
    else:
        state.words[x] = frame.waiting.pop()


def finish_put(state, frame, x, y, jump):
    """Finish the assignment to an item of the array x, which is local if y is True."""
    row = row_of(state, frame, x, y)
    value = frame.waiting.pop()
    index = frame.waiting.pop()
    if 0 <= index < len(row):
        row[index] = value
    else:
        trap(state, "index")


def finish_tell(state, frame, x, y, jump):
    """Tell a word."""
    state.told.append((frame.waiting.pop(), story(state)))


def finish_do(state, frame, x, y, jump):
    """Forget the word that a called function has returned."""
    frame.waiting.pop()


def look_at_condition(state, frame, x, y, jump):
    """Look at a condition, which leads elsewhere if it is 0."""
    if frame.waiting.pop() == 0:
        frame.at = jump


def do_loop_return(state, frame, x, y, jump):
    """Go back to the condition of the while with the number x."""
    frame.number = x
    state.rounds += 1


def leave_with(state, value):
    """Leave the innermost open function with a word."""
    state.frames.pop()
    if state.frames:
        state.frames[-1].waiting.append(value)
    else:
        state.end = ("end", value)


def finish_return(state, frame, x, y, jump):
    """Leave a function with the word of its return."""
    leave_with(state, frame.waiting.pop())


def finish_body(state, frame, x, y, jump):
    """Leave a function behind its last statement."""
    leave_with(state, 0)


ACTIONS = {
    "begin": begin, "number": give_number, "variable": give_variable, "unary": finish_unary,
    "binary": finish_binary, "divide": finish_division, "item": finish_item, "and": look_at_and,
    "or": look_at_or, "truth": finish_truth, "enter": enter, "set": finish_set, "put": finish_put,
    "tell": finish_tell, "done": finish_do, "look": look_at_condition, "round": do_loop_return,
    "return": finish_return, "finish": finish_body,
}
