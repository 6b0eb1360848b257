"""Lowering expressions."""

from sameruns.lang.signs import DIVIDING, OPERATION, TURNED


def lower_args(builder, args):
    """Return the tuple of the variables that hold the words of the arguments."""
    return tuple([lower_expression(builder, arg) for arg in args])


def lower_expression(builder, expression):
    """Return the variable that holds the word of an expression behind the deeds that are added."""
    kind = expression[0]
    if kind == "bin":
        return lower_binary(builder, expression)
    if kind == "un":
        return lower_unary(builder, expression[1], lower_expression(builder, expression[2]))
    if kind == "item":
        return lower_item(builder, expression)
    if kind == "var" and expression[1] in builder.words:
        # A local changes in no expression, so its own variable may be read later.
        return builder.words[expression[1]]
    args = lower_args(builder, expression[2]) if kind == "call" else ()
    made = builder.new_variable()
    if kind == "num":
        builder.emit(("word", made, expression[1]))
    elif kind == "var":
        builder.emit(("read", made, expression[1]))
    else:
        builder.emit(("call", made, expression[1], args, builder.chain))
    return made


def lower_item(builder, expression):
    """Lower an item of an array."""
    row, length = builder.rows[expression[1]]
    index = lower_expression(builder, expression[2])
    builder.emit(("inside", index, length, builder.chain))
    made = builder.new_variable()
    builder.emit(("load", made, row, index))
    return made


def lower_unary(builder, sign, value):
    """Lower an operator before an operand, which is in a variable."""
    made = builder.new_variable()
    if sign == "-":
        builder.emit(("word", made, 0))
        builder.emit(("op", made, "sub", made, value))
    elif sign == "~":
        builder.emit(("with", made, "xor", value, -1))
    else:
        builder.emit(("with", made, "eq", value, 0))
    return made


def lower_binary(builder, expression):
    """Lower a binary expression."""
    _, sign, left, right = expression
    first = lower_expression(builder, left)
    if sign in ("&&", "||"):
        return lower_shortened(builder, sign, first, right)
    second = lower_expression(builder, right)
    if sign in DIVIDING:
        builder.emit(("nonzero", second, builder.chain))
    if sign in TURNED:
        first, second = second, first
    made = builder.new_variable()
    builder.emit(("op", made, OPERATION[sign], first, second))
    return made


def lower_shortened(builder, sign, first, right):
    """Lower && or ||, whose right operand is evaluated only if the left one leaves the answer undecided."""
    made = builder.new_variable()
    builder.emit(("with", made, "ne", first, 0))
    fork = builder.leave()
    needed = builder.begin_block()
    second = lower_expression(builder, right)
    builder.emit(("with", made, "ne", second, 0))
    last = builder.leave()
    behind = builder.begin_block()
    builder.finish(last, ("jump", behind))
    yes, no = (needed, behind) if sign == "&&" else (behind, needed)
    builder.finish(fork, ("fork", first, yes, no))
    return made
