"""A second reading of points 67 to 71: a machine; for tests."""

from sameruns.rows.coding import decode
from tests.secondrows import execute, u

TRAPS = ("divide", "index", "depth")


class SecondMachine:
    """A run of an image."""

    def __init__(self, image):
        self.image = image
        self.rows = {image.base + 4 * k: decode(word) for k, word in enumerate(image.words)}
        self.held = [0] * 32
        self.cells = {address: 0 for address in range(image.data_start, image.top, 4)}
        self.cells.update({image.data_start + 4 * k: word for k, word in enumerate(image.data)})
        self.marks = {address: (kind, chain) for address, kind, chain in image.marks}
        self.at, self.told, self.end = image.base, [], None
        self.steps = self.rounds = self.falls = 0

    def go(self, rounds=1000, steps=100000):
        while self.end is None and self.steps < steps:
            row = self.rows.get(self.at)
            if row is None or not self.has_cell(row):
                self.end = ("fault", self.at)
                return
            is_return = row[0] == "jal" and row[1] == 0 and row[2] <= 0
            if is_return and self.rounds >= rounds:
                return
            before = self.at
            self.steps += 1
            self.rounds += is_return
            if row == ("ebreak",):
                self.stop()
                return
            if row == ("ecall",):
                self.told.append((self.held[5], self.story()))
                self.at += 4
            else:
                self.at = execute(row, self.at, self.held, self.cells)
            self.falls += self.at <= before

    def has_cell(self, row):
        return row[0] not in ("lw", "sw") or u(self.held[row[2]] + row[3]) in self.cells

    def stop(self):
        kind = self.marks.get(self.at, (None,))[0]
        if kind == "end":
            self.end = ("end", self.held[10])
        elif kind in TRAPS:
            self.end = ("trap", kind, self.story())
        else:
            self.end = ("stop", self.at)

    def frame(self, address):
        """The bytes of the frame of the function in whose words an address lies, or None."""
        starts = [start for _, start, _ in self.image.functions] + [self.image.data_start]
        for (_, start, frame), end in zip(self.image.functions, starts[1:]):
            if start <= address < end:
                return frame
        return None

    def story(self):
        p, s = self.at, u(self.held[2])
        if self.marks.get(p, (None,))[0] not in ("tell", *TRAPS):
            return ()
        found, calls = self.marks[p][1], 0
        while True:
            if self.frame(p) is None:
                return ()
            s += self.frame(p)
            if s - 4 not in self.cells:
                return ()
            p = self.cells[s - 4] - 4
            if p == self.image.base + 12:
                return found
            kind, chain = self.marks.get(p, (None, None))
            calls += 1
            if kind != "call" or calls > 1000:
                return ()
            found = chain + found

    def shown(self):
        return (tuple(self.told), self.end, self.rounds)
