"""Changing the entries of deeds."""

from sameruns.middle.deeds import SHAPES


def changed(deed, kinds, change):
    """Return the deed with change(entry) in the place of each entry of these kinds."""
    made = [deed[0]]
    for kind, entry in zip(SHAPES[deed[0]], deed[1:]):
        made.append(change(entry) if kind in kinds else entry)
    return tuple(made)


def with_variables(deed, change):
    """Return the deed with change(variable) in the place of each variable."""
    done = changed(deed, ("to", "from"), change)
    return changed(done, ("tos", "froms"), lambda several: tuple([change(variable) for variable in several]))


def with_targets(deed, change):
    """Return the deed with change(block) in the place of each block to which it goes."""
    return changed(deed, ("block", "later"), change)


def with_outer_chain(deed, at):
    """Return the deed with another chain put in front of its own one."""
    return changed(deed, ("at",), lambda inner: at + inner)
