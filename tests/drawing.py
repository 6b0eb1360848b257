"""Draws programs that the checker accepts, from a number; for tests."""

import random

BINARY = ("*", "/", "mod", "+", "-", "<<", ">>", "<", "<=", ">", ">=", "==", "!=", "&", "^", "|", "&&", "||")
UNARY = ("-", "~", "!")
NUMBERS = (0, 0, 1, 1, 2, 3, 4, 5, 7, 31, 32, 33, 255, 2147483647)


class Drawer:
    """Draws one unit without uses."""

    def __init__(self, seed, functions=3, nodes=60):
        self.random = random.Random(seed)
        self.most = nodes
        self.words = ["g", "h1"][:self.random.randint(0, 2)]
        self.arrays = [("t", 4), ("big", 11)][:self.random.randint(0, 2)]
        self.counts = {"main": 0}
        for index in range(self.random.randint(0, functions)):
            self.counts["f" + str(index)] = self.random.randint(0, 3)

    def unit(self):
        """Return the tuple of declarations of the unit."""
        rows = [("word", name, self.random.choice((0, 1, -1, 5, 2147483647, -2147483647))) for name in self.words]
        rows += [("array", name, length) for name, length in self.arrays]
        rows += [self.function(name, count) for name, count in self.counts.items()]
        self.random.shuffle(rows)
        return tuple(rows)

    def function(self, name, count):
        """Return a function."""
        # A parameter or local may have the name of something outside.
        names = ["a", "b", "c", "d", "x", "y", "g", "t", "f0", "r"]
        self.random.shuffle(names)
        params = tuple(names[:count])
        local_rows = []
        for local in names[count:count + self.random.randint(0, 3)]:
            if self.random.random() < 0.3:
                local_rows.append(("array", local, self.random.randint(1, 5)))
            else:
                local_rows.append(("word", local))
        inner = dict.fromkeys(params, "word")
        inner.update({row[1]: row[0] for row in local_rows})
        self.inner_words = [n for n, k in inner.items() if k == "word"]
        self.inner_arrays = [(row[1], row[2]) for row in local_rows if row[0] == "array"]
        self.inner_arrays += [row for row in self.arrays if row[0] not in inner]
        self.inner_words += [n for n in self.words if n not in inner]
        self.inner_calls = [n for n in self.counts if n not in inner]
        self.left = self.random.randint(1, self.most)
        return ("function", name, params, tuple(local_rows), self.block(1, False))

    def block(self, deep, looped):
        """Return a block."""
        rows = []
        for _ in range(self.random.randint(0 if deep > 1 else 1, 4)):
            if self.left <= 0:
                break
            rows.append(self.statement(deep, looped))
        return tuple(rows)

    def statement(self, deep, looped):
        """Return a statement."""
        self.left -= 1
        kinds = ["tell", "tell", "set", "set", "set", "put", "put", "do", "return"]
        if deep < 5:
            kinds += ["if", "if", "if", "while", "while"]
        if looped:
            kinds += ["break", "continue"]
        kind = self.random.choice(kinds)
        if kind == "set" and self.inner_words:
            return ("set", self.random.choice(self.inner_words), self.value())
        if kind == "put" and self.inner_arrays:
            name, length = self.random.choice(self.inner_arrays)
            return ("put", name, self.index(length), self.value())
        if kind == "do" and self.inner_calls:
            return ("do",) + self.call(3)[1:]
        if kind == "if":
            no = self.block(deep + 1, looped) if self.random.random() < 0.5 else ()
            return ("if", self.value(), self.block(deep + 1, looped), no)
        if kind == "while":
            return ("while", self.value(), self.block(deep + 1, True))
        if kind in ("break", "continue"):
            return (kind,)
        if kind == "return" and self.random.random() < 0.6:
            return ("return", self.value())
        return ("tell", self.value())

    def index(self, length):
        """Return an expression that often is an index of an array."""
        if self.random.random() < 0.7:
            self.left -= 1
            return ("num", self.random.randint(0, length))
        return self.value()

    def value(self, deep=3):
        """Return an expression."""
        self.left -= 1
        kinds = ["num", "num", "var", "var", "var"]
        if deep > 0 and self.left > 3:
            kinds += ["bin"] * 5 + ["un", "item", "item", "call"]
        kind = self.random.choice(kinds)
        if kind == "var" and self.inner_words:
            return ("var", self.random.choice(self.inner_words))
        if kind == "item" and self.inner_arrays:
            name, length = self.random.choice(self.inner_arrays)
            return ("item", name, self.index(length))
        if kind == "un":
            return ("un", self.random.choice(UNARY), self.value(deep - 1))
        if kind == "bin":
            sign = self.random.choice(BINARY)
            return ("bin", sign, self.value(deep - 1), self.value(deep - 1))
        if kind == "call" and self.inner_calls:
            return self.call(deep - 1)
        return ("num", self.random.choice(NUMBERS))

    def call(self, deep):
        """Return a call."""
        name = self.random.choice(self.inner_calls)
        return ("call", name, tuple([self.value(deep) for _ in range(self.counts[name])]))


def drawn_declarations(seed, functions=3, nodes=60):
    """Return the declarations of a drawn unit."""
    return Drawer(seed, functions, nodes).unit()


def drawn_cut(seed, count):
    """Return a drawn cut for this number of declarations."""
    chance = random.Random(seed)
    return tuple([chance.randint(0, chance.choice((0, 1, 2, 11))) for _ in range(count)])
