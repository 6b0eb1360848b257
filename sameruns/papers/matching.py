"""When the deed of an after flow stands for the deed of a before flow."""

from sameruns.basics.operations import result
from sameruns.middle.deeds import SHAPES, reads

# With this word as its second one, the operation gives its first one.
NEUTRAL = {"add": 0, "sub": 0, "or": 0, "xor": 0, "shl": 0, "sar": 0, "mul": 1, "quo": 1, "and": -1}


def is_neutral(name, word):
    """Return True if an operation with this word on its right gives the word on its left."""
    return name in NEUTRAL and NEUTRAL[name] == word


def is_same_but_reads(x, y):
    """Return True if two deeds are of the same kind, and all in them but the variables that they read is the same."""
    if x[0] != y[0]:
        return False
    for kind, first, second in zip(SHAPES[x[0]], x[1:], y[1:]):
        if kind not in ("from", "froms") and first != second:
            return False
    return True


def given_word(walk, x):
    """Return the word that a copy, op or with gives, if it reads only agreeing and known variables, or None."""
    if x[0] not in ("copy", "op", "with"):
        return None
    words = [walk.agreed_word(variable) for variable in reads(x)]
    if None in words:
        return None
    if x[0] == "copy":
        return words[0]
    return result(x[2], words[0], words[1] if x[0] == "op" else x[4])


def second_word(walk, x):
    """Return the word on the right of an op or with, if it is known, or None."""
    if x[0] == "with":
        return x[4]
    return walk.agreed_word(x[4]) if x[0] == "op" else None


def matches(walk, x, y):
    """Return True if y matches x, where both assign the same variable."""
    if is_same_but_reads(x, y) and walk.all_like(reads(x), reads(y)):
        return True
    if y[0] == "word":
        return given_word(walk, x) == y[2]
    if y[0] == "with":
        return x[0] == "op" and x[2] == y[2] and walk.is_like(x[3], y[3]) and walk.agreed_word(x[4]) == y[4]
    return y[0] == "copy" and (is_done_already(walk, x, y[2]) or passes_on(walk, x, y[2]))


def is_done_already(walk, x, source):
    """Return True if a variable has the word already that x gives."""
    return walk.all_agree(reads(x)) and walk.book.has((x[0], source, *x[2:]))


def passes_on(walk, x, source):
    """Return True if x is an operation that gives its first word, which a variable has."""
    word = second_word(walk, x)
    return word is not None and is_neutral(x[2], word) and walk.is_like(x[3], source)
