"""What is known of two flows at one moment of a walk along both: their agreeing variables and facts."""

from sameruns.papers.books import FactBook


class Walk:
    """The agreeing variables, and the facts of the after flow."""

    def __init__(self, entry):
        agreeing, facts = entry
        self.agreeing = {variable: True for variable in agreeing}
        self.book = FactBook(facts)

    def agrees(self, variable):
        """Return True if a variable is agreeing."""
        return variable in self.agreeing

    def all_agree(self, variables):
        """Return True if all these variables are agreeing."""
        return all([variable in self.agreeing for variable in variables])

    def agreed_word(self, variable):
        """Return the word as which an agreeing variable is known, or None."""
        return self.book.known_as(variable) if variable in self.agreeing else None

    def is_like(self, first, second):
        """Return True if a variable of the before flow is like one of the after flow."""
        if first not in self.agreeing:
            return False
        return first == second or self.book.has(("copy", first, second)) or self.book.has(("copy", second, first))

    def all_like(self, firsts, seconds):
        """Return True if there are equally many variables, and each is like the other one in its place."""
        pairs = list(zip(firsts, seconds))
        return len(firsts) == len(seconds) and all([self.is_like(first, second) for first, second in pairs])

    def set_agreeing(self, changed, shared):
        """Take the changed variables out of the agreeing ones, and put those that are shared in."""
        for variable in changed:
            self.agreeing.pop(variable, None)
        for variable in shared:
            self.agreeing[variable] = True

    def entry(self):
        """Return the entry of a block that is entered now."""
        return (tuple(sorted(self.agreeing)), self.book.shown())
