"""Images: what the machine runs."""


class Image:
    """Instruction words and data at their addresses, and what is told about them."""

    def __init__(self, base, depth, top, words, data, functions, names, marks):
        self.base = base
        self.depth = depth
        self.top = top
        self.words = tuple(words)
        self.data = tuple(data)
        self.data_start = base + 4 * len(self.words)
        self.functions = tuple(functions)
        self.names = tuple(names)
        self.marks = tuple(marks)
        self.marked = {address: (kind, chain) for address, kind, chain in self.marks}

    def parts(self):
        """Return the tuple of the nine fields."""
        return (
            self.base, self.depth, self.top, self.words, self.data, self.data_start, self.functions, self.names,
            self.marks,
        )

    @property
    def size(self):
        """Return the number of the instruction words."""
        return len(self.words)

    def mark(self, address):
        """Return the pair (kind, chain) of the debugging row of an address, or None."""
        return self.marked.get(address)
