"""A second reading of points 20 to 22, by generators that yield in front of each step; for tests."""

import math
from fractions import Fraction


class Trapped(Exception):
    """A trap."""


def word(n):
    n &= 0xFFFFFFFF
    return n - (1 << 32) if n >> 31 else n


def operation(name, a, b):
    """The operations of point 4, in other words than those of the package."""
    if name == "quo":
        return -1 if b == 0 else word(math.trunc(Fraction(a, b)))
    if name == "mod":
        return a if b == 0 else a - b * math.trunc(Fraction(a, b))
    shift = ((b % 32) + 32) % 32
    table = {
        "add": lambda: word(a + b), "sub": lambda: word(a - b), "mul": lambda: word(a * b),
        "and": lambda: word((a & 0xFFFFFFFF) & (b & 0xFFFFFFFF)),
        "or": lambda: word((a & 0xFFFFFFFF) | (b & 0xFFFFFFFF)),
        "xor": lambda: word((a & 0xFFFFFFFF) ^ (b & 0xFFFFFFFF)),
        "shl": lambda: word(a * 2 ** shift), "sar": lambda: math.floor(Fraction(a, 2 ** shift)),
        "lt": lambda: int(a < b), "le": lambda: int(a <= b), "eq": lambda: int(a == b), "ne": lambda: int(a != b),
    }
    return table[name]()


NAMES = {
    "+": "add", "-": "sub", "*": "mul", "/": "quo", "mod": "mod", "&": "and", "^": "xor", "|": "or",
    "<<": "shl", ">>": "sar", "<": "lt", "<=": "le", "==": "eq", "!=": "ne",
}


def count(block):
    """The number of statements in a block."""
    total = 0
    for statement in block:
        total += 1 + sum([count(part) for part in statement[2:] if statement[0] in ("if", "while")])
    return total


class Oracle:
    """A run of a program; depth must be small."""

    def __init__(self, units, depth=32):
        self.depth = depth
        self.functions, self.words, self.arrays = {}, {}, {}
        for unit in units:
            for row in unit.declarations:
                if row[0] == "function":
                    self.functions[row[1]] = row
                elif row[0] == "word":
                    self.words[row[1]] = row[2]
                else:
                    self.arrays[row[1]] = [0] * row[2]
        self.frames, self.told, self.end = [], [], None
        self.steps = self.rounds = 0
        self.walk = self.function("main", [])
        self.coming = next(self.walk)

    def story(self):
        return tuple([(frame["name"], frame["number"]) for frame in self.frames])

    def go(self, rounds=1000, steps=100000):
        while self.end is None and self.steps < steps:
            if self.coming == "round":
                if self.rounds >= rounds:
                    return
                self.rounds += 1
            self.steps += 1
            try:
                self.coming = next(self.walk)
            except StopIteration as stopped:
                self.end = ("end", stopped.value)
            except Trapped as trapped:
                self.end = ("trap", trapped.args[0], self.story())

    def shown(self):
        return (tuple(self.told), self.end, self.steps, self.rounds)

    def function(self, name, args):
        _, _, params, local_rows, body = self.functions[name]
        frame = {"name": name, "number": None, "words": dict(zip(params, args)), "arrays": {}}
        for row in local_rows:
            frame["words" if row[0] == "word" else "arrays"][row[1]] = 0 if row[0] == "word" else [0] * row[2]
        self.frames.append(frame)
        signal = yield from self.block(frame, body, 0)
        if signal is None:
            yield "step"
            signal = ("return", 0)
        self.frames.pop()
        return signal[1]

    def block(self, frame, block, number):
        for statement in block:
            signal = yield from self.statement(frame, statement, number)
            if signal is not None:
                return signal
            number += count((statement,))
        return None

    def statement(self, frame, statement, number):
        yield "step"
        frame["number"] = number
        kind = statement[0]
        if kind in ("break", "continue"):
            return statement
        if kind == "while":
            while True:
                value = yield from self.value(frame, statement[1])
                yield "step"
                if value == 0:
                    return None
                signal = yield from self.block(frame, statement[2], number + 1)
                if signal == ("break",):
                    return None
                if signal is not None and signal[0] == "return":
                    return signal
                yield "round"
                frame["number"] = number
        if kind == "if":
            value = yield from self.value(frame, statement[1])
            yield "step"
            if value:
                return (yield from self.block(frame, statement[2], number + 1))
            return (yield from self.block(frame, statement[3], number + 1 + count(statement[2])))
        if kind == "put":
            index = yield from self.value(frame, statement[2])
            value = yield from self.value(frame, statement[3])
            yield "step"
            row = self.row(frame, statement[1])
            if index not in range(len(row)):
                raise Trapped("index")
            row[index] = value
            return None
        if kind == "do":
            yield from self.value(frame, ("call",) + statement[1:])
            yield "step"
            return None
        value = yield from self.value(frame, statement[-1])
        yield "step"
        if kind == "return":
            return ("return", value)
        if kind == "tell":
            self.told.append((value, self.story()))
        else:
            table = frame["words"] if statement[1] in frame["words"] else self.words
            table[statement[1]] = value
        return None

    def row(self, frame, name):
        return frame["arrays"][name] if name in frame["arrays"] else self.arrays[name]

    def value(self, frame, tree):
        kind = tree[0]
        if kind == "num":
            yield "step"
            return tree[1]
        if kind == "var":
            yield "step"
            return (frame["words"] if tree[1] in frame["words"] else self.words)[tree[1]]
        if kind == "item":
            index = yield from self.value(frame, tree[2])
            yield "step"
            row = self.row(frame, tree[1])
            if index not in range(len(row)):
                raise Trapped("index")
            return row[index]
        if kind == "un":
            value = yield from self.value(frame, tree[2])
            yield "step"
            return word(-value) if tree[1] == "-" else -1 - value if tree[1] == "~" else int(value == 0)
        if kind == "call":
            args = []
            for arg in tree[2]:
                args.append((yield from self.value(frame, arg)))
            yield "step"
            if len(self.frames) + 1 > self.depth:
                raise Trapped("depth")
            return (yield from self.function(tree[1], args))
        _, sign, left, right = tree
        first = yield from self.value(frame, left)
        if sign in ("&&", "||"):
            yield "step"
            if (first == 0) == (sign == "&&"):
                return 0 if sign == "&&" else 1
            second = yield from self.value(frame, right)
            yield "step"
            return int(second != 0)
        second = yield from self.value(frame, right)
        yield "step"
        if sign in ("/", "mod") and second == 0:
            raise Trapped("divide")
        if sign in (">", ">="):
            return int(first > second) if sign == ">" else int(first >= second)
        return operation(NAMES[sign], first, second)
