"""The errors of the package."""


class RunsError(ValueError):
    """The base class of all errors of the package."""


class BadText(RunsError):
    """A text is not the text of a unit."""

    def __init__(self, line, column):
        self.line = line
        self.column = column


class BadName(RunsError):
    """A name is not a name of the language."""

    def __init__(self, name):
        self.name = name


class Twice(RunsError):
    """A name is given twice."""

    def __init__(self, name):
        self.name = name


class BadLength(RunsError):
    """The length of an array is out of its bounds."""

    def __init__(self, name):
        self.name = name


class BadNumber(RunsError):
    """A number of the source is out of its bounds."""

    def __init__(self, number):
        self.number = number


class Stray(RunsError):
    """A break or continue stands outside of every while."""

    def __init__(self, function, number):
        self.function = function
        self.number = number


class Unknown(RunsError):
    """A name stands for nothing."""

    def __init__(self, name):
        self.name = name


class Unlike(RunsError):
    """A name stands for something of another kind."""

    def __init__(self, name):
        self.name = name


class Missing(RunsError):
    """A name that is used is declared nowhere."""

    def __init__(self, name):
        self.name = name


class NoMain(RunsError):
    """There is no function main."""


class BadFlow(RunsError):
    """A flow breaks a rule."""

    def __init__(self, block, position):
        self.block = block
        self.position = position


class BadSpot(RunsError):
    """A spot is no spot of the flow, or out of order."""

    def __init__(self, index):
        self.index = index


class BadSite(RunsError):
    """A site is no call that can be laid, or out of order."""

    def __init__(self, index):
        self.index = index


class BadRow(RunsError):
    """An entry of a row is not as in the table."""

    def __init__(self, index):
        self.index = index


class BadLine(RunsError):
    """A line is no line of a listing."""

    def __init__(self, number):
        self.number = number


class BadDepth(RunsError):
    """A depth is out of its bounds."""

    def __init__(self, depth):
        self.depth = depth


class BadBase(RunsError):
    """A base is out of its bounds or not a multiple of 4."""

    def __init__(self, base):
        self.base = base


class BadPass(RunsError):
    """A name is not the name of a pass."""

    def __init__(self, name):
        self.name = name


class TooMany(RunsError):
    """There are more passes than the most that may be."""

    def __init__(self, most):
        self.most = most


class BadFree(RunsError):
    """A number of free registers is out of its bounds."""

    def __init__(self, free):
        self.free = free


class NoUnit(RunsError):
    """A shop has no unit of this name."""

    def __init__(self, name):
        self.name = name
