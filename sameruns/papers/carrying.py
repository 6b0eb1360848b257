"""Carrying a walk along corresponding deeds of a padded before flow and an after flow."""

from sameruns.middle.deeds import CHECKS, SINGLE, assigns, is_end, is_plain, reads
from sameruns.papers.facts import follow_deed
from sameruns.papers.matching import is_same_but_reads, matches


def carry(walk, x, y):
    """Lead a walk over the deeds x and y; return True if some rule allows it."""
    if is_end(y):
        return carries_end(walk, x, y)
    if is_plain(x) and is_plain(y):
        if not is_harmless(walk, x, y):
            return False
        walk.set_agreeing((*assigns(x), *assigns(y)), shared(walk, x, y))
    elif y[0] == "skip":
        if not is_needless(walk, x):
            return False
    elif is_plain(x) or not is_same_deed(walk, x, y):
        return False
    else:
        walk.set_agreeing((), assigns(y))
    follow_deed(walk.book, y)
    return True


def is_same_deed(walk, x, y):
    """Return True if two deeds are the same but for variables that are like each other."""
    return is_same_but_reads(x, y) and walk.all_like(reads(x), reads(y))


def is_harmless(walk, x, y):
    """Return True if x reads the same word or item, too, where the plain deed y reads one outside of the variables."""
    if y[0] == "load":
        return x[0] == "load" and x[2] == y[2] and walk.is_like(x[3], y[3])
    if y[0] == "read":
        return x[0] == "read" and x[2] == y[2]
    return True


def shared(walk, x, y):
    """Return a list of the variables that get the same word by the plain deeds x and y."""
    if x[0] in SINGLE and y[0] in SINGLE:
        return [x[1]] if x[1] == y[1] and matches(walk, x, y) else []
    if x[0] != "moves" or y[0] != "moves":
        return []
    sources = dict(zip(y[1], y[2]))
    return [d for d, a in zip(x[1], x[2]) if d in sources and walk.is_like(a, sources[d])]


def is_needless(walk, x):
    """Return True if x is a check that cannot trap."""
    return x[0] in CHECKS and walk.all_agree(reads(x)) and walk.book.implies(x[:-1])


def carries_end(walk, x, y):
    """Return True if some rule allows the end y behind x."""
    if x[0] == "fork" and y[0] == "jump":
        return y[1] in sure_ways(walk, x)
    return is_same_deed(walk, x, y)


def sure_ways(walk, fork):
    """Return a list of the blocks to which a fork may be said to go always."""
    _, variable, yes, no = fork
    found = []
    if walk.agrees(variable):
        if walk.book.known_as(variable) == 0:
            found.append(no)
        if walk.book.implies(("nonzero", variable)):
            found.append(yes)
    return found


def ways(end):
    """Return a list of tuples (block, fact): where an end goes, and what is true on the way, or None."""
    if end[0] == "jump":
        return [(end[1], None)]
    if end[0] == "back":
        return []
    _, variable, yes, no = end
    if yes == no:
        return [(yes, None)]
    return [(yes, ("nonzero", variable)), (no, ("word", variable, 0))]
