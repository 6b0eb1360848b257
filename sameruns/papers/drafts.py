"""Finding the entries of a paper, and the after flow along with them."""

from sameruns.papers.carrying import carry, ways
from sameruns.papers.walks import Walk


class Draft:
    """The blocks of an after flow and the entries of its paper, as far as they are found."""

    def __init__(self, before, blocks):
        self.before = before
        self.given = list(blocks)
        self.written = list(blocks)
        self.entries = [None] * len(self.given)
        self.entries[0] = (tuple(range(before.count)), ())
        # Whether the block must be walked again, because its entry has changed.
        self.waiting = [False] * len(self.given)
        self.waiting[0] = True

    def settle(self, action):
        """Walk along the blocks as long as an entry changes; the function turns the given deeds into those of y."""
        while any(self.waiting):
            for number in range(len(self.given)):
                if self.waiting[number]:
                    self.waiting[number] = False
                    self.walk_along(number, action)

    def walk_along(self, number, action):
        """Make the deeds of a block, and keep of the entries behind it only what is true there."""
        walk = Walk(self.entries[number])
        deeds = []
        for x, given in zip(self.before.blocks[number], self.given[number]):
            y = action(walk, given)
            deeds.append(y)
            carry(walk, x, y)
        self.written[number] = tuple(deeds)
        for target, fact in ways(deeds[-1]):
            self.narrow(target, walk, fact)

    def narrow(self, target, walk, fact):
        """Keep of the entry of a block only what is true behind a walk, where one more fact may be true."""
        is_new = fact is not None and walk.book.note(fact)
        entry = self.entries[target]
        if entry is None:
            narrowed = walk.entry()
        else:
            agreeing = [variable for variable in entry[0] if walk.agrees(variable)]
            facts = [said for said in entry[1] if walk.book.implies(said)]
            narrowed = (tuple(agreeing), tuple(facts))
        if is_new:
            walk.book.forget(fact)
        if narrowed != entry:
            self.entries[target] = narrowed
            self.waiting[target] = True


def drafted(before, blocks, action):
    """Return the tuple (blocks, entries) of an after flow and its paper, for a padded before flow.

    The deeds of the after flow are action(walk, deed) for the deeds of the given blocks, in the order of a walk.
    """
    draft = Draft(before, blocks)
    draft.settle(action)
    return (tuple(draft.written), tuple(draft.entries))


def as_it_is(walk, deed):
    """Return the deed that is given."""
    return deed
