"""Draws valid flows and middles, from a number; for tests."""

import random

from sameruns.basics.operations import OPERATIONS
from sameruns.middle.flows import Flow, Middle

WORDS = (("g", 3), ("h", -1))
ARRAYS = (("t", 4), ("u", 2))
NUMBERS = (0, 0, 0, 1, 1, 2, 3, 4, -1, 7, 32, 2147483647, -2147483648)
# Operations that the rules of the judge look at more often than the others.
FREQUENT = ("add", "sub", "mul", "and", "or", "xor", "shl", "sar", "quo")
PLAIN = ("word", "word", "copy", "copy", "op", "op", "op", "with", "with", "with", "read", "load", "moves", "skip")
OTHER = ("write", "store", "nonzero", "inside", "depth", "tell", "call")


class FlowDrawer:
    """Draws one flow."""

    def __init__(self, chance, name, params, calls, blocks=7, deeds=6, most=7):
        self.chance = chance
        self.name = name
        self.calls = calls
        self.many = chance.randint(1, blocks)
        self.deeds = deeds
        self.count = chance.randint(max(params, 1), max(params, most))
        if params == 0 and chance.random() < 0.04:
            self.count = 0
        self.params = tuple(chance.sample(range(self.count), params))
        self.arrays = tuple([chance.randint(1, 3) for _ in range(chance.choice((0, 0, 1, 2)))])

    def flow(self):
        """Return the flow."""
        blocks = []
        for number in range(self.many):
            deeds = [self.deed() for _ in range(self.chance.randint(0, self.deeds))]
            blocks.append((*deeds, self.end(number)))
        return Flow(self.name, self.params, self.count, self.arrays, tuple(blocks))

    def variable(self):
        """Return a variable."""
        return self.chance.randrange(self.count)

    def at(self):
        """Return a chain."""
        return tuple([(self.name, self.chance.randint(0, 9)) for _ in range(self.chance.choice((1, 1, 1, 2, 3)))])

    def row(self):
        """Return an array."""
        return self.chance.choice([name for name, _ in ARRAYS] + list(range(len(self.arrays))))

    def operation(self):
        """Return the name of an operation."""
        return self.chance.choice(FREQUENT if self.chance.random() < 0.8 else OPERATIONS)

    def deed(self):
        """Return a deed that is no end."""
        if self.count == 0:
            return self.chance.choice((("skip",), ("moves", (), ()), ("depth", self.chance.randint(1, 3), self.at())))
        kind = self.chance.choice(PLAIN if self.chance.random() < 0.7 else OTHER)
        d, a, b = self.variable(), self.variable(), self.variable()
        number = self.chance.choice(NUMBERS)
        if kind == "call" and not self.calls:
            kind = "tell"
        if kind == "call":
            name, many = self.chance.choice(self.calls)
            return ("call", d, name, tuple([self.variable() for _ in range(many)]), self.at())
        if kind == "moves":
            some = self.chance.sample(range(self.count), self.chance.randint(0, min(4, self.count)))
            return ("moves", tuple(some), tuple([self.variable() for _ in some]))
        return {
            "word": ("word", d, number), "copy": ("copy", d, a), "op": ("op", d, self.operation(), a, b),
            "with": ("with", d, self.operation(), a, number), "read": ("read", d, self.chance.choice("gh")),
            "load": ("load", d, self.row(), a), "skip": ("skip",), "write": ("write", self.chance.choice("gh"), a),
            "store": ("store", self.row(), a, b), "nonzero": ("nonzero", a, self.at()),
            "inside": ("inside", a, self.chance.randint(1, 5), self.at()),
            "depth": ("depth", self.chance.randint(1, 3), self.at()), "tell": ("tell", a, self.at()),
        }[kind]

    def end(self, number):
        """Return an end for the block with this number."""
        kind = self.chance.choice(("jump", "jump", "fork", "fork", "fork", "back"))
        later = range(number + 1, self.many)
        if self.count and kind == "fork" and later:
            return ("fork", self.variable(), self.chance.choice(later), self.chance.choice(later))
        if self.count and (kind == "back" or kind == "fork"):
            return ("back", self.variable())
        if later and self.chance.random() < 0.6:
            return ("jump", self.chance.choice(later))
        return ("jump", self.chance.randrange(self.many))


def drawn_flow(seed, **sizes):
    """Return a drawn flow."""
    chance = random.Random(seed)
    return FlowDrawer(chance, "f", chance.randint(0, 3), [("f", 1), ("q", 2)], **sizes).flow()


def drawn_middle(seed, **sizes):
    """Return a drawn middle that can be run."""
    chance = random.Random(seed)
    counts = [("main", 0), ("f", 1), ("q", 2), ("leaf", chance.randint(0, 3))]
    flows = []
    for name, many in counts:
        flows.append(FlowDrawer(chance, name, many, [] if name == "leaf" else counts, **sizes).flow())
    chance.shuffle(flows)
    return Middle(WORDS, ARRAYS, tuple(flows))
