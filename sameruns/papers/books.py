"""Facts that can be found by what they mention."""

# Where the variables of each kind of fact stand.
VARIABLES = {
    "word": (1,), "copy": (1, 2), "op": (1, 3, 4), "with": (1, 3), "read": (1,), "load": (1, 3),
    "nonzero": (1,), "inside": (1,), "depth": (),
}

# Where these kinds have what they are looked up by, together with the kind: the variable that is
# known or bounded, the global word or the array that is read.
SOUGHT = {"word": 1, "inside": 1, "read": 2, "load": 2}


def mentioned(fact):
    """Return a list of the variables that a fact mentions, one for each time."""
    return [fact[at] for at in VARIABLES[fact[0]]]


def keys_of(fact):
    """Return a list of the keys by which a fact is found: its variables, or a pair (kind, what it is about)."""
    keys = mentioned(fact)
    if fact[0] in SOUGHT:
        keys.append((fact[0], fact[SOUGHT[fact[0]]]))
    elif fact[0] == "depth":
        keys.append(("depth", ""))
    return keys


class FactBook:
    """Facts without duplicates, in their order."""

    def __init__(self, facts):
        self.facts = {}
        self.found_by = {}
        for fact in facts:
            self.note(fact)

    def note(self, fact):
        """Append a fact unless it is there already; return True if it was not."""
        if fact in self.facts:
            return False
        self.facts[fact] = True
        for key in keys_of(fact):
            if key not in self.found_by:
                self.found_by[key] = {}
            self.found_by[key][fact] = True
        return True

    def forget(self, fact):
        """Take out a fact."""
        del self.facts[fact]
        for key in keys_of(fact):
            # The same variable may stand twice in a fact.
            self.found_by[key].pop(fact, None)

    def about(self, key):
        """Return a list of the facts with this key, in their order."""
        return list(self.found_by.get(key, ()))

    def drop(self, key):
        """Take out all facts with this key."""
        for fact in self.about(key):
            self.forget(fact)

    def drop_outer(self):
        """Take out all facts that read a global word or a global array."""
        for key in list(self.found_by):
            if isinstance(key, tuple) and key[0] in ("read", "load") and isinstance(key[1], str):
                self.drop(key)

    def has(self, fact):
        """Return True if a fact is one of these."""
        return fact in self.facts

    def shown(self):
        """Return the tuple of the facts."""
        return tuple(self.facts)

    def known_as(self, variable):
        """Return the word as which a variable is known, or None."""
        for fact in self.found_by.get(("word", variable), ()):
            return fact[2]
        return None

    def implies(self, fact):
        """Return True if a fact is implied by these."""
        if fact in self.facts:
            return True
        kind = fact[0]
        if kind == "copy":
            return self.implies_copy(fact[1], fact[2])
        if kind == "nonzero":
            return self.known_as(fact[1]) not in (None, 0)
        if kind == "inside":
            return self.implies_inside(fact[1], fact[2])
        if kind == "depth":
            return any([other[1] >= fact[1] for other in self.about(("depth", ""))])
        return False

    def implies_copy(self, variable, other):
        """Return True if two variables have the same word by these facts, apart from the plain copy fact."""
        if variable == other or ("copy", other, variable) in self.facts:
            return True
        word = self.known_as(variable)
        return word is not None and word == self.known_as(other)

    def implies_inside(self, index, length):
        """Return True if an index is inside an array of this length by these facts."""
        word = self.known_as(index)
        if word is not None and 0 <= word < length:
            return True
        return any([other[2] <= length for other in self.about(("inside", index))])
