"""Writing units and expressions."""

from sameruns.lang.signs import TIGHTNESS

INDENT = "  "


def write_expression(expression):
    """Return the written text of an expression."""
    kind = expression[0]
    if kind == "num":
        return str(expression[1])
    if kind == "var":
        return expression[1]
    if kind == "item":
        return write_item(expression[1], expression[2])
    if kind == "call":
        return write_call(expression[1], expression[2])
    if kind == "un":
        return expression[1] + write_operand(expression[2], expression[2][0] == "bin")
    sign = expression[1]
    bound = TIGHTNESS[sign]
    left = write_operand(expression[2], tightness(expression[2]) < bound)
    right = write_operand(expression[3], tightness(expression[3]) <= bound)
    return left + " " + sign + " " + right


def tightness(expression):
    """Return a number that is greater the tighter the outermost operator binds."""
    if expression[0] == "bin":
        return TIGHTNESS[expression[1]]
    return TIGHTNESS["*"] + 1


def write_operand(expression, in_brackets):
    """Return the written text of an operand, in round brackets or not."""
    text = write_expression(expression)
    return "(" + text + ")" if in_brackets else text


def write_item(name, index):
    """Return the written text of an item of an array."""
    return name + "[" + write_expression(index) + "]"


def write_call(name, args):
    """Return the written text of a call."""
    return name + "(" + ", ".join([write_expression(arg) for arg in args]) + ")"


def write_unit(unit):
    """Return the written text of a unit."""
    rows = [write_use(use) for use in unit.uses]
    for declaration in unit.declarations:
        if declaration[0] == "function":
            rows.extend(function_rows(declaration))
        elif declaration[0] == "word" and declaration[2] != 0:
            rows.append("word " + declaration[1] + " = " + str(declaration[2]) + ";")
        else:
            rows.append(write_plain(declaration))
    return "".join([row + "\n" for row in rows])


def write_plain(row):
    """Return the line of a word that is 0 at the beginning, or of an array."""
    if row[0] == "word":
        return "word " + row[1] + ";"
    return "word " + row[1] + "[" + str(row[2]) + "];"


def write_use(use):
    """Return the line of a use."""
    if use[0] == "function":
        return "use word " + use[1] + "(" + str(use[2]) + ");"
    return "use " + write_plain(use)


def function_rows(function):
    """Return a list of the lines of a function."""
    _, name, params, local_rows, body = function
    rows = ["word " + name + "(" + ", ".join(["word " + param for param in params]) + ") {"]
    rows.extend([INDENT + write_plain(row) for row in local_rows])
    rows.extend(block_rows(body))
    rows.append("}")
    return rows


def block_rows(block):
    """Return a list of the lines of a block, which begin with two more spaces."""
    return [INDENT + row for statement in block for row in statement_rows(statement)]


def statement_rows(statement):
    """Return a list of the lines of a statement."""
    kind = statement[0]
    if kind == "while":
        return ["while (" + write_expression(statement[1]) + ") {", *block_rows(statement[2]), "}"]
    if kind == "if":
        rows = ["if (" + write_expression(statement[1]) + ") {", *block_rows(statement[2])]
        if statement[3]:
            rows.append("} else {")
            rows.extend(block_rows(statement[3]))
        rows.append("}")
        return rows
    return [write_simple(statement) + ";"]


def write_simple(statement):
    """Return the written text of a statement without blocks, up to its semicolon."""
    kind = statement[0]
    if kind == "set":
        return statement[1] + " = " + write_expression(statement[2])
    if kind == "put":
        return write_item(statement[1], statement[2]) + " = " + write_expression(statement[3])
    if kind == "do":
        return write_call(statement[1], statement[2])
    if kind in ("tell", "return"):
        return kind + " " + write_expression(statement[1])
    return kind
