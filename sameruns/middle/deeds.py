"""The deeds of middle code: what each one reads and assigns, and where it goes."""

# What the entries behind the name of a deed are: "to" a variable that is assigned, "from" one that
# is read ("tos" and "froms": a tuple of such), "word" a word, "many" an integer from 1 on, "name" an
# operation, "global" and "function" a name, "row" an array, "at" a chain, "block" and "later" a block.
SHAPES = {
    "word": ("to", "word"),
    "copy": ("to", "from"),
    "op": ("to", "name", "from", "from"),
    "with": ("to", "name", "from", "word"),
    "read": ("to", "global"),
    "load": ("to", "row", "from"),
    "moves": ("tos", "froms"),
    "skip": (),
    "write": ("global", "from"),
    "store": ("row", "from", "from"),
    "nonzero": ("from", "at"),
    "inside": ("from", "many", "at"),
    "depth": ("many", "at"),
    "call": ("to", "function", "froms", "at"),
    "tell": ("from", "at"),
    "jump": ("block",),
    "fork": ("from", "later", "later"),
    "back": ("from",),
}

# The plain deeds that assign one variable, all plain deeds, the checks, and the ends.
SINGLE = ("word", "copy", "op", "with", "read", "load")
PLAIN = ("word", "copy", "op", "with", "read", "load", "moves", "skip")
CHECKS = ("nonzero", "inside", "depth")
ENDS = ("jump", "fork", "back")


def variables_in(deed, one, several):
    """Return the tuple of the variables in the entries of these two kinds, in order."""
    found = []
    for kind, entry in zip(SHAPES[deed[0]], deed[1:]):
        if kind == one:
            found.append(entry)
        elif kind == several:
            found.extend(entry)
    return tuple(found)


def reads(deed):
    """Return the tuple of the variables that a deed reads, one for each time."""
    return variables_in(deed, "from", "froms")


def assigns(deed):
    """Return the tuple of the variables that a deed assigns."""
    return variables_in(deed, "to", "tos")


def targets(deed):
    """Return the tuple of the blocks to which a deed goes."""
    if deed[0] == "jump":
        return (deed[1],)
    if deed[0] == "fork":
        return (deed[2], deed[3])
    return ()


def is_plain(deed):
    """Return True if a deed is plain: it changes nothing but variables."""
    return deed[0] in PLAIN


def is_end(deed):
    """Return True if a deed is the end of a block."""
    return deed[0] in ENDS
