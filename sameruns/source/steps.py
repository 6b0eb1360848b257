"""The small steps of a function, written out in a row.

A step is a tuple (kind, x, y, jump). The jump is None, or the index of another step: where a step
goes instead of to the next one ("begin" of a break or continue, "round", "goto"), or may go ("look",
"and", "or"). A "goto" is no step of its own and is taken out of the way by `linked`.
"""

from sameruns.lang.signs import DIVIDING, OPERATION, TURNED
from sameruns.lang.units import inner_names


class StepWriter:
    """Writes out the steps of one function."""

    def __init__(self, function):
        self.inner = inner_names(function)
        self.steps = []
        self.number = 0
        # For each while around the statement, innermost last: the steps that wait for their jump.
        self.breaks = []
        self.continues = []

    def write(self, kind, x=None, y=None, jump=None):
        """Write one step and return its index."""
        self.steps.append((kind, x, y, jump))
        return len(self.steps) - 1

    def aim(self, index, jump):
        """Give a step that was written before its jump."""
        kind, x, y, _ = self.steps[index]
        self.steps[index] = (kind, x, y, jump)

    def here(self):
        """Return the index of the step that is written next."""
        return len(self.steps)

    def is_inner(self, name):
        """Return True if a name is a parameter or local."""
        return name in self.inner


def steps_of(function):
    """Return a list of tuples (kind, x, y, after, jump): the steps of a function, with the index behind each."""
    writer = StepWriter(function)
    write_block(writer, function[4])
    writer.write("finish")
    return linked(writer.steps)


def linked(steps):
    """Return a list of the steps with the indexes to which they go, past every "goto"."""
    found = []
    for at, (kind, x, y, jump) in enumerate(steps):
        if jump is not None:
            jump = landing(steps, jump)
        if jump is not None and kind in ("begin", "round"):
            found.append((kind, x, y, jump, None))
        else:
            found.append((kind, x, y, landing(steps, at + 1), jump))
    return found


def landing(steps, at):
    """Return the index of the first step from an index on that is no "goto"."""
    while at < len(steps) and steps[at][0] == "goto":
        at = steps[at][3]
    return at


def write_block(writer, block):
    """Write the steps of a block."""
    for statement in block:
        write_statement(writer, statement)


def write_statement(writer, statement):
    """Write the steps of a statement."""
    number = writer.number
    writer.number += 1
    begin = writer.write("begin", number)
    kind = statement[0]
    if kind == "if":
        write_choice(writer, statement)
    elif kind == "while":
        write_loop(writer, statement, number)
    elif kind == "break":
        writer.breaks[-1].append(begin)
    elif kind == "continue":
        writer.continues[-1].append(begin)
    else:
        write_simple(writer, statement)


def write_choice(writer, statement):
    """Write the steps of an if behind its beginning."""
    write_value(writer, statement[1])
    look = writer.write("look")
    write_block(writer, statement[2])
    leave = writer.write("goto")
    writer.aim(look, writer.here())
    write_block(writer, statement[3])
    writer.aim(leave, writer.here())


def write_loop(writer, statement, number):
    """Write the steps of a while behind its beginning."""
    condition = writer.here()
    write_value(writer, statement[1])
    look = writer.write("look")
    writer.breaks.append([])
    writer.continues.append([])
    write_block(writer, statement[2])
    turn = writer.write("round", number, None, condition)
    continues = writer.continues.pop()
    for index in continues:
        writer.aim(index, turn)
    leaving = [look, *writer.breaks.pop()]
    for index in leaving:
        writer.aim(index, writer.here())


def write_simple(writer, statement):
    """Write the steps of another statement behind its beginning."""
    kind = statement[0]
    if kind == "do":
        write_call(writer, statement)
        writer.write("done")
    elif kind == "put":
        write_value(writer, statement[2])
        write_value(writer, statement[3])
        writer.write("put", statement[1], writer.is_inner(statement[1]))
    elif kind == "set":
        write_value(writer, statement[2])
        writer.write("set", statement[1], writer.is_inner(statement[1]))
    else:
        write_value(writer, statement[1])
        writer.write(kind)


def write_value(writer, expression):
    """Write the steps that evaluate an expression."""
    kind = expression[0]
    if kind == "num":
        writer.write("number", expression[1])
    elif kind == "var":
        writer.write("variable", expression[1], writer.is_inner(expression[1]))
    elif kind == "item":
        write_value(writer, expression[2])
        writer.write("item", expression[1], writer.is_inner(expression[1]))
    elif kind == "un":
        write_value(writer, expression[2])
        writer.write("unary", expression[1])
    elif kind == "call":
        write_call(writer, expression)
    else:
        write_binary(writer, expression)


def write_call(writer, call):
    """Write the steps of a call, in an expression or a statement."""
    for arg in call[2]:
        write_value(writer, arg)
    writer.write("enter", call[1], len(call[2]))


def write_binary(writer, expression):
    """Write the steps of a binary expression."""
    _, sign, left, right = expression
    write_value(writer, left)
    if sign in ("&&", "||"):
        look = writer.write("and" if sign == "&&" else "or")
        write_value(writer, right)
        writer.write("truth")
        writer.aim(look, writer.here())
        return
    write_value(writer, right)
    if sign in DIVIDING:
        writer.write("divide", OPERATION[sign])
    else:
        writer.write("binary", OPERATION[sign], sign in TURNED)
