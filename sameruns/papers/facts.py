"""Facts: what they imply, and which ones there are after a deed."""

from sameruns.middle.deeds import CHECKS, SINGLE, assigns, reads
from sameruns.papers.books import FactBook


def implied(facts, fact):
    """Return True if a fact is implied by the tuple of facts."""
    return FactBook(facts).implies(fact)


def after_deed(facts, deed):
    """Return the tuple of the facts after a deed."""
    book = FactBook(facts)
    follow_deed(book, deed)
    return book.shown()


def known_word(facts, variable):
    """Return the word as which a variable is known, or None."""
    return FactBook(facts).known_as(variable)


def follow_deed(book, deed):
    """Change a book of facts to the facts after a deed."""
    for variable in assigns(deed):
        book.drop(variable)
    if deed[0] == "write":
        book.drop(("read", deed[1]))
    elif deed[0] == "store":
        book.drop(("load", deed[1]))
    elif deed[0] == "call":
        book.drop_outer()
    for fact in new_facts(deed):
        book.note(fact)


def new_facts(deed):
    """Return a list of the facts that a deed makes true."""
    kind = deed[0]
    if kind in SINGLE:
        return [] if deed[1] in reads(deed) else [deed]
    if kind == "moves":
        return [("copy", d, a) for d, a in zip(deed[1], deed[2]) if a not in deed[1]]
    if kind == "write":
        return [("read", deed[2], deed[1])]
    if kind == "store":
        return [("load", deed[3], deed[1], deed[2])]
    return [deed[:-1]] if kind in CHECKS else []
