"""Flows, the middle code of functions, and middles, that of units and programs."""

from sameruns.basics.errors import BadFlow
from sameruns.basics.operations import OPERATIONS
from sameruns.basics.words import GREATEST, LEAST
from sameruns.middle.deeds import SHAPES, is_end

MOST_PLACES = 8


class Flow:
    """The middle code of one function."""

    def __init__(self, name, params, count, arrays, blocks):
        self.name = name
        self.params = tuple(params)
        self.count = count
        self.arrays = tuple(arrays)
        self.blocks = tuple([tuple(block) for block in blocks])
        check_params(self.params, count)
        check_blocks(self)

    def parts(self):
        """Return the tuple of the five fields."""
        return (self.name, self.params, self.count, self.arrays, self.blocks)


class Middle:
    """The middle code of a unit, or of several ones."""

    def __init__(self, words, arrays, flows):
        self.words = tuple(words)
        self.arrays = tuple(arrays)
        self.flows = tuple(flows)

    def parts(self):
        """Return the tuple of the words, the arrays and the parts of the flows."""
        return (self.words, self.arrays, tuple([flow.parts() for flow in self.flows]))

    def flow(self, name):
        """Return the flow with this name, or None."""
        for flow in self.flows:
            if flow.name == name:
                return flow
        return None

    @staticmethod
    def joined(middles):
        """Return the middle that has all that the middles of a list have, one behind the other."""
        words = [row for middle in middles for row in middle.words]
        arrays = [row for middle in middles for row in middle.arrays]
        flows = [flow for middle in middles for flow in middle.flows]
        return Middle(tuple(words), tuple(arrays), tuple(flows))


def check_params(params, count):
    """Refuse the first parameter that is no variable, or is one for the second time."""
    for index, param in enumerate(params):
        if not is_within(param, 0, count - 1) or param in params[:index]:
            raise BadFlow(-1, index)


def check_blocks(flow):
    """Refuse the first deed that breaks a rule."""
    if not flow.blocks:
        raise BadFlow(0, 0)
    for number, block in enumerate(flow.blocks):
        if not block:
            raise BadFlow(number, 0)
        for position, deed in enumerate(block):
            if not keeps_rules(flow, number, deed) or is_end(deed) != (position == len(block) - 1):
                raise BadFlow(number, position)


def keeps_rules(flow, number, deed):
    """Return True if a deed, wherever it stands in the block with this number, keeps the rules for its entries."""
    if not deed or deed[0] not in SHAPES or len(deed) != len(SHAPES[deed[0]]) + 1:
        return False
    for kind, entry in zip(SHAPES[deed[0]], deed[1:]):
        test = TESTS[kind]
        if not test(flow, number, entry):
            return False
    return deed[0] != "moves" or (len(deed[1]) == len(deed[2]) and len(set(deed[1])) == len(deed[1]))


def is_within(entry, least, greatest):
    """Return True if an entry is an integer between two bounds."""
    return isinstance(entry, int) and least <= entry <= greatest


def fits_variable(flow, number, entry):
    """Return True if an entry is a variable."""
    return is_within(entry, 0, flow.count - 1)


def fits_variables(flow, number, entry):
    """Return True if an entry is a tuple of variables."""
    return isinstance(entry, tuple) and all([is_within(one, 0, flow.count - 1) for one in entry])


def fits_word(flow, number, entry):
    """Return True if an entry is a word."""
    return is_within(entry, LEAST, GREATEST)


def fits_many(flow, number, entry):
    """Return True if an entry is an integer from 1 on."""
    return isinstance(entry, int) and entry >= 1


def fits_operation(flow, number, entry):
    """Return True if an entry is the name of an operation."""
    return entry in OPERATIONS


def fits_name(flow, number, entry):
    """Return True if an entry is a string."""
    return isinstance(entry, str)


def fits_row(flow, number, entry):
    """Return True if an entry is a string or the number of a local array."""
    return isinstance(entry, str) or is_within(entry, 0, len(flow.arrays) - 1)


def fits_chain(flow, number, entry):
    """Return True if an entry is a tuple of one to eight places."""
    return isinstance(entry, tuple) and 1 <= len(entry) <= MOST_PLACES


def fits_block(flow, number, entry):
    """Return True if an entry is the number of a block."""
    return is_within(entry, 0, len(flow.blocks) - 1)


def fits_later(flow, number, entry):
    """Return True if an entry is the number of a block behind the one of the deed."""
    return is_within(entry, number + 1, len(flow.blocks) - 1)


TESTS = {
    "to": fits_variable, "from": fits_variable, "tos": fits_variables, "froms": fits_variables,
    "word": fits_word, "many": fits_many, "name": fits_operation, "global": fits_name,
    "function": fits_name, "row": fits_row, "at": fits_chain, "block": fits_block, "later": fits_later,
}
