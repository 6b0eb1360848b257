"""Reading expressions from the tokens of a text."""

from sameruns.basics.errors import BadText
from sameruns.lang.signs import TIGHTNESS, UNARY
from sameruns.lang.tokens import tokens


class TokenReader:
    """Goes along the tokens of a text and refuses the first one with which no unit goes on."""

    def __init__(self, text):
        self.tokens = tokens(text)
        self.at = 0

    def next_kind(self):
        """Return the kind of the next token."""
        return self.tokens[self.at][0]

    def next_text(self):
        """Return the text of the next token."""
        return self.tokens[self.at][1]

    def next_line(self):
        """Return the line of the next token."""
        return self.tokens[self.at][2]

    def refuse(self):
        """Refuse the next token."""
        _, _, line, column = self.tokens[self.at]
        raise BadText(line, column)

    def take(self):
        """Go behind the next token and return its text."""
        text = self.next_text()
        self.at += 1
        return text

    def take_kind(self, kind):
        """Go behind the next token and return its text, if it has this kind."""
        if self.next_kind() != kind:
            self.refuse()
        return self.take()

    def expect(self, text):
        """Go behind the next token, which must have this text."""
        if self.next_text() != text:
            self.refuse()
        self.at += 1

    def accept(self, text):
        """Go behind the next token if it has this text; return True if so."""
        if self.next_text() != text:
            return False
        self.at += 1
        return True


def read_expression(reader):
    """Return the expression that begins at the next token."""
    # The operands and operators wait here until a looser operator follows, so that
    # the depth of the calls does not grow with the number of operators.
    operands = [read_operand(reader)]
    signs = []
    while reader.next_text() in TIGHTNESS:
        sign = reader.take()
        while signs and TIGHTNESS[signs[-1]] >= TIGHTNESS[sign]:
            join_last(operands, signs)
        signs.append(sign)
        operands.append(read_operand(reader))
    while signs:
        join_last(operands, signs)
    return operands[0]


def join_last(operands, signs):
    """Make one operand of the last two and the last operator."""
    right = operands.pop()
    left = operands.pop()
    operands.append(("bin", signs.pop(), left, right))


def read_operand(reader):
    """Return the operand that begins at the next token."""
    signs = []
    while reader.next_text() in UNARY:
        signs.append(reader.take())
    found = read_plain_operand(reader)
    while signs:
        found = ("un", signs.pop(), found)
    return found


def read_plain_operand(reader):
    """Return the operand without signs that begins at the next token."""
    if reader.next_kind() == "number":
        return ("num", int(reader.take()))
    if reader.accept("("):
        found = read_expression(reader)
        reader.expect(")")
        return found
    name = reader.take_kind("name")
    if reader.accept("["):
        index = read_expression(reader)
        reader.expect("]")
        return ("item", name, index)
    if reader.accept("("):
        return ("call", name, read_arguments(reader))
    return ("var", name)


def read_arguments(reader):
    """Return the tuple of the arguments that stand up to the closing bracket, and go behind it."""
    found = []
    if reader.accept(")"):
        return ()
    found.append(read_expression(reader))
    while reader.accept(","):
        found.append(read_expression(reader))
    reader.expect(")")
    return tuple(found)
