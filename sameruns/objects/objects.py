"""Objects: the code and data of units, and their sums."""


class Object:
    """Instruction words with open places, and what the linker must know of them."""

    def __init__(self, words, functions, data, needs, places, marks):
        self.words = tuple(words)
        self.functions = tuple(functions)
        self.data = tuple(data)
        self.needs = tuple(needs)
        self.places = tuple(places)
        self.marks = tuple(marks)

    def parts(self):
        """Return the tuple of the six fields."""
        return (self.words, self.functions, self.data, self.needs, self.places, self.marks)

    @property
    def size(self):
        """Return the number of the words."""
        return len(self.words)

    def __add__(self, other):
        """Return the object that has all of both, one behind the other."""
        shift = len(self.words)
        functions = [(name, start + shift, params, frame) for name, start, params, frame in other.functions]
        places = [(index + shift, kind, name) for index, kind, name in other.places]
        marks = [(index + shift, kind, chain) for index, kind, chain in other.marks]
        had = {need: True for need in self.needs}
        needs = [need for need in other.needs if need not in had]
        return Object(
            (*self.words, *other.words), (*self.functions, *functions), (*self.data, *other.data),
            (*self.needs, *needs), (*self.places, *places), (*self.marks, *marks),
        )

    @staticmethod
    def gathered(pieces, data, needs):
        """Return the object with the code of these pieces, one behind the other, and these data and needs."""
        words = []
        functions = []
        places = []
        marks = []
        for piece in pieces:
            functions.append((piece.name, len(words), piece.params, piece.frame))
            for index, (_, place, mark) in enumerate(piece.lines):
                if place is not None:
                    places.append((len(words) + index, place[0], place[1]))
                if mark is not None:
                    marks.append((len(words) + index, mark[0], mark[1]))
            words.extend(piece.words)
        return Object(words, functions, data, needs, places, marks)
