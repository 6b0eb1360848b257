"""Reading the text of a unit."""

from sameruns.lang.expressionreading import TokenReader, read_arguments, read_expression
from sameruns.lang.units import Unit


class StatementLog:
    """Counts the statements of each function and remembers their lines."""

    def __init__(self):
        self.rows = []
        self.function = ""
        self.count = 0

    def begin_function(self, name):
        """Begin to count from 0 for this function."""
        self.function = name
        self.count = 0

    def note(self, line):
        """Give the next number to a statement that begins in this line."""
        self.rows.append((self.function, self.count, line))
        self.count += 1


def read_unit(text):
    """Return the unit of a text; raise BadText if it is not the text of a unit."""
    return read_whole(TokenReader(text), StatementLog())


def lines(text):
    """Return a list of the tuples (function, number, line) of all statements of the text of a unit."""
    log = StatementLog()
    read_whole(TokenReader(text), log)
    return list(log.rows)


def read_whole(reader, log):
    """Return the unit of all tokens."""
    uses = []
    while reader.accept("use"):
        uses.append(read_use(reader))
    declarations = []
    while reader.next_kind() != "end":
        declarations.append(read_declaration(reader, log))
    return Unit(tuple(uses), tuple(declarations))


def read_use(reader):
    """Return the use whose first token was taken."""
    reader.expect("word")
    name = reader.take_kind("name")
    found = ("word", name)
    if reader.accept("["):
        found = ("array", name, read_number(reader))
        reader.expect("]")
    elif reader.accept("("):
        found = ("function", name, read_number(reader))
        reader.expect(")")
    reader.expect(";")
    return found


def read_number(reader):
    """Return the number that is the next token."""
    return int(reader.take_kind("number"))


def read_declaration(reader, log):
    """Return the declaration that begins at the next token."""
    reader.expect("word")
    name = reader.take_kind("name")
    if reader.accept("("):
        return read_function(reader, log, name)
    if reader.accept("="):
        sign = -1 if reader.accept("-") else 1
        found = ("word", name, sign * read_number(reader))
        reader.expect(";")
        return found
    found = read_local(reader, name)
    return ("word", name, 0) if found[0] == "word" else found


def read_local(reader, name):
    """Return the word or array whose name was taken."""
    found = ("word", name)
    if reader.accept("["):
        found = ("array", name, read_number(reader))
        reader.expect("]")
    reader.expect(";")
    return found


def read_function(reader, log, name):
    """Return the function whose name and opening bracket were taken."""
    params = read_params(reader)
    reader.expect("{")
    local_rows = []
    while reader.accept("word"):
        local_rows.append(read_local(reader, reader.take_kind("name")))
    log.begin_function(name)
    body = read_rest_of_block(reader, log)
    return ("function", name, params, tuple(local_rows), body)


def read_params(reader):
    """Return the tuple of the parameters, and go behind the closing bracket."""
    found = []
    if reader.accept(")"):
        return ()
    found.append(read_param(reader))
    while reader.accept(","):
        found.append(read_param(reader))
    reader.expect(")")
    return tuple(found)


def read_param(reader):
    """Return the name of the parameter that begins at the next token."""
    reader.expect("word")
    return reader.take_kind("name")


def read_block(reader, log):
    """Return the block that begins at the next token."""
    reader.expect("{")
    return read_rest_of_block(reader, log)


def read_rest_of_block(reader, log):
    """Return the statements up to the closing brace, and go behind it."""
    found = []
    while not reader.accept("}"):
        log.note(reader.next_line())
        found.append(read_statement(reader, log))
    return tuple(found)


def read_statement(reader, log):
    """Return the statement that begins at the next token."""
    if reader.accept("if"):
        return read_choice(reader, log)
    if reader.accept("while"):
        return ("while", read_condition(reader), read_block(reader, log))
    found = read_simple_statement(reader)
    reader.expect(";")
    return found


def read_choice(reader, log):
    """Return the if whose first token was taken."""
    condition = read_condition(reader)
    yes = read_block(reader, log)
    no = read_block(reader, log) if reader.accept("else") else ()
    return ("if", condition, yes, no)


def read_condition(reader):
    """Return the expression in round brackets that begins at the next token."""
    reader.expect("(")
    found = read_expression(reader)
    reader.expect(")")
    return found


def read_simple_statement(reader):
    """Return the statement without blocks that begins at the next token, up to its semicolon."""
    if reader.next_kind() == "name":
        return read_named_statement(reader)
    if reader.accept("tell"):
        return ("tell", read_expression(reader))
    if reader.accept("return"):
        return ("return", read_expression(reader))
    if reader.accept("break"):
        return ("break",)
    if not reader.accept("continue"):
        reader.refuse()
    return ("continue",)


def read_named_statement(reader):
    """Return the statement that begins with a name, up to its semicolon."""
    name = reader.take()
    if reader.accept("("):
        return ("do", name, read_arguments(reader))
    if reader.accept("["):
        index = read_expression(reader)
        reader.expect("]")
        reader.expect("=")
        return ("put", name, index, read_expression(reader))
    reader.expect("=")
    return ("set", name, read_expression(reader))
