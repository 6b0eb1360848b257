"""Draws valid flows and middles, from a number; for tests."""

import random

from sameruns.basics.operations import OPERATIONS
from sameruns.middle.flows import Flow, Middle

WORDS = (("g", 3), ("h", -1))
ARRAYS = (("t", 4), ("u", 2))
NUMBERS = (0, 0, 0, 1, 1, 2, 3, 4, -1, 7, 32, 2147483647, -2147483648)
# Operations that the rules of the judge look at more often than the others.
FREQUENT = ("add", "sub", "mul", "and", "or", "xor", "shl", "sar", "quo")
PLAIN = ("word", "word", "copy", "copy", "op", "op", "op", "with", "with", "with", "read", "load", "moves", "skip")
OTHER = ("write", "store", "nonzero", "inside", "depth", "tell", "call")


class FlowDrawer:
    """Draws one flow."""

    def __init__(self, chance, name, params, calls, blocks=7, deeds=6, most=7):
        self.chance = chance
        self.name = name
        self.calls = calls
        self.many = chance.randint(1, blocks)
        self.deeds = deeds
        self.count = chance.randint(max(params, 1), max(params, most))
        if params == 0 and chance.random() < 0.04:
            self.count = 0
        self.params = tuple(chance.sample(range(self.count), params))
        self.arrays = tuple([chance.randint(1, 3) for _ in range(chance.choice((0, 0, 1, 2)))])

    def flow(self):
        """Return the flow."""
        blocks = []
        for number in range(self.many):
            deeds = [self.deed() for _ in range(self.chance.randint(0, self.deeds))]
            blocks.append((*deeds, self.end(number)))
        return Flow(self.name, self.params, self.count, self.arrays, tuple(blocks))

    def variable(self):
        """Return a variable."""
        return self.chance.randrange(self.count)

    def target(self):
        """Return a variable that is assigned."""
        return self.variable()

    def at(self):
        """Return a chain."""
        return tuple([(self.name, self.chance.randint(0, 9)) for _ in range(self.chance.choice((1, 1, 1, 2, 3)))])

    def row(self):
        """Return an array."""
        return self.chance.choice([name for name, _ in ARRAYS] + list(range(len(self.arrays))))

    def operation(self):
        """Return the name of an operation."""
        return self.chance.choice(FREQUENT if self.chance.random() < 0.8 else OPERATIONS)

    def deed(self):
        """Return a deed that is no end."""
        if self.count == 0:
            return self.chance.choice((("skip",), ("moves", (), ()), ("depth", self.chance.randint(1, 3), self.at())))
        kind = self.chance.choice(PLAIN if self.chance.random() < 0.7 else OTHER)
        d, a, b = self.target(), self.variable(), self.variable()
        number = self.chance.choice(NUMBERS)
        if kind == "call" and not self.calls:
            kind = "tell"
        if kind == "call":
            name, many = self.chance.choice(self.calls)
            return ("call", d, name, tuple([self.variable() for _ in range(many)]), self.at())
        if kind == "moves":
            some = sorted({self.target() for _ in range(self.chance.randint(0, 4))}, key=lambda _: self.chance.random())
            return ("moves", tuple(some), tuple([self.variable() for _ in some]))
        return {
            "word": ("word", d, number), "copy": ("copy", d, a), "op": ("op", d, self.operation(), a, b),
            "with": ("with", d, self.operation(), a, number), "read": ("read", d, self.chance.choice("gh")),
            "load": ("load", d, self.row(), a), "skip": ("skip",), "write": ("write", self.chance.choice("gh"), a),
            "store": ("store", self.row(), a, b), "nonzero": ("nonzero", a, self.at()),
            "inside": ("inside", a, self.chance.randint(1, 5), self.at()),
            "depth": ("depth", self.chance.randint(1, 3), self.at()), "tell": ("tell", a, self.at()),
        }[kind]

    def end(self, number):
        """Return an end for the block with this number."""
        kind = self.chance.choice(("jump", "jump", "fork", "fork", "fork", "back"))
        later = range(number + 1, self.many)
        if self.count and kind == "fork" and later:
            return ("fork", self.variable(), self.chance.choice(later), self.chance.choice(later))
        if self.count and (kind == "back" or kind == "fork"):
            return ("back", self.variable())
        if later and self.chance.random() < 0.6:
            return ("jump", self.chance.choice(later))
        return ("jump", self.chance.randrange(self.many))


class LoopDrawer(FlowDrawer):
    """Draws one flow that is made of loops and forks, as lowered ones are."""

    def flow(self):
        """Return the flow."""
        self.count = max(self.count, 4)
        self.blocks = [[]]
        self.body(0)
        self.blocks[-1].append(("back", self.variable()))
        return Flow(self.name, self.params, self.count, self.arrays, tuple([tuple(block) for block in self.blocks]))

    def target(self):
        """Return a variable that is assigned, seldom one of the last ones."""
        return self.chance.randrange(self.count if self.chance.random() < 0.1 else self.count // 2)

    def body(self, deep):
        """Go on with some deeds, loops and forks."""
        for _ in range(self.chance.randint(1, 3)):
            self.blocks[-1].extend([self.deed() for _ in range(self.chance.randint(0, self.deeds))])
            if deep < 3 and self.chance.random() < 0.6:
                self.loop(deep)
            elif deep < 3:
                self.choice(deep)

    def loop(self, deep):
        """Go on with a loop."""
        head = len(self.blocks)
        self.blocks[-1].append(("jump", head))
        self.blocks.append([self.deed() for _ in range(self.chance.randint(0, 2))])
        self.blocks.append([])
        self.body(deep + 1)
        self.blocks[-1].append(("jump", head))
        self.blocks[head].append(("fork", self.variable(), head + 1, len(self.blocks)))
        self.blocks.append([])

    def choice(self, deep):
        """Go on with a fork whose ways meet again."""
        first = len(self.blocks)
        self.blocks.append([])
        self.body(deep + 1)
        last, behind = len(self.blocks) - 1, len(self.blocks)
        self.blocks[first - 1].append(("fork", self.variable(), first, behind))
        self.blocks[last].append(("jump", behind))
        self.blocks.append([])


def drawn_looping_flow(seed, **sizes):
    """Return a drawn flow with loops."""
    chance = random.Random(seed)
    return LoopDrawer(chance, "f", chance.randint(0, 3), [("f", 1), ("q", 2)], **sizes).flow()


def drawn_flow(seed, **sizes):
    """Return a drawn flow."""
    chance = random.Random(seed)
    return FlowDrawer(chance, "f", chance.randint(0, 3), [("f", 1), ("q", 2)], **sizes).flow()


def closed(chance, flow):
    """Return the flow without local arrays, and with a word for each variable that is no parameter."""
    begin = [("word", v, chance.choice(NUMBERS)) for v in range(flow.count) if v not in flow.params]
    blocks = [[deed for deed in block if not (deed[0] == "load" and isinstance(deed[2], int))] for block in flow.blocks]
    blocks = [[deed for deed in block if not (deed[0] == "store" and isinstance(deed[1], int))] for block in blocks]
    return Flow(flow.name, flow.params, flow.count, (), tuple([tuple(begin + blocks[0])] + blocks[1:]))


def drawn_middle(seed, drawer=FlowDrawer, **sizes):
    """Return a drawn middle that can be run."""
    chance = random.Random(seed)
    counts = [("main", 0), ("f", 1), ("q", 2), ("leaf", chance.randint(0, 3)), ("tiny", chance.randint(0, 2))]
    flows = []
    for name, many in counts[:4]:
        flows.append(drawer(chance, name, many, [] if name == "leaf" else counts, **sizes).flow())
    flows.append(closed(chance, FlowDrawer(chance, "tiny", counts[4][1], [], blocks=3, deeds=3, most=4).flow()))
    chance.shuffle(flows)
    return Middle(WORDS, ARRAYS, tuple(flows))
