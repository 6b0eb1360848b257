"""Papers and the judge."""

from sameruns.papers.books import mentioned
from sameruns.papers.carrying import carry, ways
from sameruns.papers.skips import padded, wrong_spot
from sameruns.papers.walks import Walk


class Paper:
    """The certificate of a pass: spots of the before flow, and one entry for each block."""

    def __init__(self, spots, entries):
        self.spots = tuple(spots)
        self.entries = tuple(entries)

    def parts(self):
        """Return the tuple of the spots and the entries."""
        return (self.spots, self.entries)


def judge(before, after, paper):
    """Return True if the judge accepts the paper for the two flows."""
    if not has_same_frame(before, after) or wrong_spot(before, paper.spots) is not None:
        return False
    first = padded(before, paper.spots)
    if [len(block) for block in first.blocks] != [len(block) for block in after.blocks]:
        return False
    if not has_good_entries(before, after, paper.entries):
        return False
    for number, entry in enumerate(paper.entries):
        if entry is not None and not is_carried(first.blocks[number], after.blocks[number], entry, paper.entries):
            return False
    return True


def has_same_frame(before, after):
    """Return True if the flows have the same name, parameters and arrays, and the after flow has enough variables."""
    if (before.name, before.params, before.arrays) != (after.name, after.params, after.arrays):
        return False
    return after.count >= before.count


def has_good_entries(before, after, entries):
    """Return True if there is one entry for each block, and none mentions what is not there."""
    if len(entries) != len(after.blocks) or entries[0] is None or entries[0][1] != ():
        return False
    return all([entry is None or is_good_entry(before, after, entry) for entry in entries])


def is_good_entry(before, after, entry):
    """Return True if a pair has ascending variables of the before flow, and facts on variables of the after flow."""
    agreeing, facts = entry
    for index, variable in enumerate(agreeing):
        if not 0 <= variable < before.count or (index > 0 and variable <= agreeing[index - 1]):
            return False
    return all([0 <= variable < after.count for fact in facts for variable in mentioned(fact)])


def is_carried(xs, ys, entry, entries):
    """Return True if a walk from an entry along the deeds of a block is allowed and leads to the other entries."""
    walk = Walk(entry)
    for x, y in zip(xs, ys):
        if not carry(walk, x, y):
            return False
    return all([leads_to(walk, fact, entries[target]) for target, fact in ways(ys[-1])])


def leads_to(walk, fact, entry):
    """Return True if a walk at its end, where one more fact may be true, gives all that an entry says."""
    if entry is None or not walk.all_agree(entry[0]):
        return False
    is_new = fact is not None and walk.book.note(fact)
    holds = all([walk.book.implies(said) for said in entry[1]])
    if is_new:
        walk.book.forget(fact)
    return holds
