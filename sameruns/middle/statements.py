"""Lowering statements."""

from sameruns.lang.trees import numbered
from sameruns.middle.expressions import lower_args, lower_expression


def lower_block(builder, block):
    """Lower the statements of a block; those that nothing leads to get their numbers only."""
    for statement in block:
        if builder.current is None:
            builder.number += len(numbered((statement,)))
        else:
            lower_statement(builder, statement)


def lower_statement(builder, statement):
    """Lower a statement."""
    builder.begin_statement()
    kind = statement[0]
    if kind == "if":
        lower_choice(builder, statement)
    elif kind == "while":
        lower_loop(builder, statement)
    elif kind == "break":
        _, breaks = builder.loops[-1]
        breaks.append(builder.leave())
    elif kind == "continue":
        head, _ = builder.loops[-1]
        builder.close(("jump", head))
    else:
        lower_simple(builder, statement)


def lower_simple(builder, statement):
    """Lower a statement that has no blocks and belongs to no while."""
    kind = statement[0]
    if kind == "do":
        args = lower_args(builder, statement[2])
        builder.emit(("call", builder.new_variable(), statement[1], args, builder.chain))
    elif kind == "put":
        lower_put(builder, statement)
    elif kind == "set":
        lower_set(builder, statement[1], lower_expression(builder, statement[2]))
    elif kind == "tell":
        builder.emit(("tell", lower_expression(builder, statement[1]), builder.chain))
    else:
        builder.close(("back", lower_expression(builder, statement[1])))


def lower_set(builder, name, value):
    """Give the word of a variable to a word."""
    if name in builder.words:
        builder.emit(("copy", builder.words[name], value))
    else:
        builder.emit(("write", name, value))


def lower_put(builder, statement):
    """Lower the assignment to an item, which looks at the index behind the value."""
    row, length = builder.rows[statement[1]]
    index = lower_expression(builder, statement[2])
    value = lower_expression(builder, statement[3])
    builder.emit(("inside", index, length, builder.chain))
    builder.emit(("store", row, index, value))


def lower_choice(builder, statement):
    """Lower an if."""
    _, condition, yes, no = statement
    value = lower_expression(builder, condition)
    fork = builder.leave()
    first = builder.begin_block()
    lower_block(builder, yes)
    leaving = [builder.leave()]
    # The next block that is begun is the one of the else, or the one behind if there is none.
    second = len(builder.blocks)
    if no:
        builder.begin_block()
        lower_block(builder, no)
        leaving.append(builder.leave())
    leaving = [number for number in leaving if number is not None]
    if leaving or not no:
        end_by_jump(builder, leaving, builder.begin_block())
    builder.finish(fork, ("fork", value, first, second))


def end_by_jump(builder, numbers, target):
    """End blocks that were left by a jump to another block."""
    for number in numbers:
        builder.finish(number, ("jump", target))


def lower_loop(builder, statement):
    """Lower a while."""
    _, condition, body = statement
    # The block that is left here is the last one so far, so the loop is entered from the block just before its head.
    entry = builder.leave()
    head = builder.begin_block()
    builder.finish(entry, ("jump", head))
    value = lower_expression(builder, condition)
    fork = builder.leave()
    first = builder.begin_block()
    builder.loops.append((head, []))
    lower_block(builder, body)
    if builder.current is not None:
        builder.close(("jump", head))
    _, breaks = builder.loops.pop()
    behind = builder.begin_block()
    builder.finish(fork, ("fork", value, first, behind))
    end_by_jump(builder, breaks, behind)
