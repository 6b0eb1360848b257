"""A small walker over middle code, and what can be asked of a flow; for tests."""

from tests.oracle import operation

READS = {
    "copy": (2,), "op": (3, 4), "with": (3,), "load": (3,), "write": (2,), "store": (2, 3), "nonzero": (1,),
    "inside": (1,), "tell": (1,), "fork": (1,), "back": (1,),
}
ASSIGNING = ("word", "copy", "op", "with", "read", "load", "call")


def read_by(deed):
    """The variables that a deed reads."""
    if deed[0] == "moves":
        return deed[2]
    if deed[0] == "call":
        return deed[3]
    return tuple([deed[at] for at in READS.get(deed[0], ())])


def assigned_by(deed):
    """The variables that a deed assigns."""
    if deed[0] == "moves":
        return deed[1]
    return (deed[1],) if deed[0] in ASSIGNING else ()


def leads_to(block):
    """The blocks to which a block goes."""
    end = block[-1]
    return {"jump": end[1:2], "fork": end[2:], "back": ()}[end[0]]


def wanted_first(flow):
    """The set of the variables that are wanted at the beginning of block 0."""
    begins = [set() for _ in flow.blocks]
    changing = True
    while changing:
        changing = False
        for number, block in enumerate(flow.blocks):
            now = set().union(*[begins[target] for target in leads_to(block)])
            for deed in reversed(block):
                now -= set(assigned_by(deed))
                now |= set(read_by(deed))
            if now != begins[number]:
                begins[number] = now
                changing = True
    return begins[0]


def regions(flow):
    """A dict from the head of each loop to the last block of its region."""
    found = {}
    for number, block in enumerate(flow.blocks):
        if block[-1][0] == "jump" and block[-1][1] <= number:
            found[block[-1][1]] = number
    return found


def is_simple(flow, head):
    """True if the loop with this head is simple (point 42)."""
    spans = regions(flow)
    inside = range(head, spans[head] + 1)
    outside = [number for number in range(len(flow.blocks)) if number not in inside]
    entering = [number for number in outside if head in leads_to(flow.blocks[number])]
    if len(entering) != 1 or entering[0] >= head or flow.blocks[entering[0]][-1] != ("jump", head):
        return False
    for other, last in spans.items():
        if other <= entering[0] <= last and not other <= head <= last:
            return False
    return not any(
        target in inside and target != head for number in outside for target in leads_to(flow.blocks[number])
    )


class SmallWalker:
    """A run of a middle."""

    def __init__(self, middle, depth=32):
        self.depth = depth
        self.flows = {flow.name: flow for flow in middle.flows}
        self.words = dict(middle.words)
        self.arrays = {name: [0] * length for name, length in middle.arrays}
        self.frames, self.told, self.end = [], [], None
        self.steps = self.rounds = 0
        self.enter("main", (), None)

    def enter(self, name, args, into):
        flow = self.flows[name]
        words = [0] * flow.count
        for param, arg in zip(flow.params, args):
            words[param] = arg
        self.frames.append({
            "flow": flow, "words": words, "arrays": [[0] * length for length in flow.arrays],
            "block": 0, "position": 0, "chain": (), "into": into,
        })

    def go(self, rounds=1000, steps=100000):
        while self.end is None and self.steps < steps:
            frame = self.frames[-1]
            deed = frame["flow"].blocks[frame["block"]][frame["position"]]
            if deed[0] == "jump" and deed[1] <= frame["block"]:
                if self.rounds >= rounds:
                    return
                self.rounds += 1
            self.steps += 1
            frame["position"] += 1
            self.do(frame, deed)

    def story(self, chain):
        return tuple([place for frame in self.frames for place in frame["chain"]]) + chain

    def trap(self, kind, chain):
        self.end = ("trap", kind, self.story(chain))

    def row(self, frame, row):
        return frame["arrays"][row] if isinstance(row, int) else self.arrays[row]

    def do(self, frame, deed):
        words, kind = frame["words"], deed[0]
        if kind == "word":
            words[deed[1]] = deed[2]
        elif kind == "copy":
            words[deed[1]] = words[deed[2]]
        elif kind == "op":
            words[deed[1]] = operation(deed[2], words[deed[3]], words[deed[4]])
        elif kind == "with":
            words[deed[1]] = operation(deed[2], words[deed[3]], deed[4])
        elif kind == "read":
            words[deed[1]] = self.words[deed[2]]
        elif kind == "write":
            self.words[deed[1]] = words[deed[2]]
        elif kind in ("load", "store"):
            self.item(frame, deed)
        elif kind == "moves":
            for target, value in zip(deed[1], [words[source] for source in deed[2]]):
                words[target] = value
        elif kind in ("jump", "fork"):
            frame["block"] = deed[1] if kind == "jump" else deed[2 if words[deed[1]] else 3]
            frame["position"] = 0
        elif kind == "back":
            self.back(frame, words[deed[1]])
        elif kind == "tell":
            self.told.append((words[deed[1]], self.story(deed[2])))
        else:
            self.check(frame, deed)

    def item(self, frame, deed):
        row = self.row(frame, deed[2] if deed[0] == "load" else deed[1])
        index = frame["words"][deed[3] if deed[0] == "load" else deed[2]]
        if index not in range(len(row)):
            self.end = ("wild",)
        elif deed[0] == "load":
            frame["words"][deed[1]] = row[index]
        else:
            row[index] = frame["words"][deed[3]]

    def check(self, frame, deed):
        words, kind = frame["words"], deed[0]
        if kind == "nonzero" and words[deed[1]] == 0:
            self.trap("divide", deed[2])
        if kind == "inside" and words[deed[1]] not in range(deed[2]):
            self.trap("index", deed[3])
        if kind == "depth" and len(self.frames) + deed[1] > self.depth:
            self.trap("depth", deed[2])
        if kind == "call":
            if len(self.frames) == self.depth:
                self.trap("depth", deed[4])
            else:
                frame["chain"] = deed[4]
                self.enter(deed[2], [words[arg] for arg in deed[3]], deed[1])

    def back(self, frame, value):
        self.frames.pop()
        if not self.frames:
            self.end = ("end", value)
        else:
            self.frames[-1]["words"][frame["into"]] = value
            self.frames[-1]["chain"] = ()

    def shown(self):
        return (tuple(self.told), self.end, self.rounds)
