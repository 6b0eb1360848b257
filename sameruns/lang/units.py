"""Units, their parts and their whole."""

from sameruns.lang.trees import in_order, numbered

NAMED = ("var", "item", "call", "set", "put", "do")


class Unit:
    """The tree of a unit: a tuple of uses and a tuple of declarations."""

    def __init__(self, uses, declarations):
        self.uses = tuple(uses)
        self.declarations = tuple(declarations)

    def parts(self):
        """Return the tuple of the uses and the declarations."""
        return (self.uses, self.declarations)


def use_of(declaration):
    """Return the use that stands for a declaration in another unit."""
    kind, name = declaration[0], declaration[1]
    if kind == "word":
        return (kind, name)
    if kind == "array":
        return (kind, name, declaration[2])
    return (kind, name, len(declaration[2]))


def functions_of(unit):
    """Return a list of the functions that a unit declares, in order."""
    return [declaration for declaration in unit.declarations if declaration[0] == "function"]


def inner_names(function):
    """Return a dict with the names of the parameters and locals of a function."""
    names = {name: True for name in function[2]}
    for local in function[3]:
        names[local[1]] = True
    return names


def outer_names(function):
    """Return a dict with the names in the body of a function that are looked up outside of it."""
    inner = inner_names(function)
    found = {}
    for _, statement in numbered(function[4]):
        for node in in_order(statement):
            if node[0] in NAMED and node[1] not in inner:
                found[node[1]] = True
    return found


def first_uses(unit):
    """Return a list of the uses for the names of a unit, each by its first declaration."""
    found = {}
    for declaration in unit.declarations:
        if declaration[1] not in found:
            found[declaration[1]] = use_of(declaration)
    return list(found.values())


def part(declarations, uses):
    """Return the unit of these declarations, with those of the uses that it needs."""
    own = {declaration[1]: True for declaration in declarations}
    wanted = {}
    for declaration in declarations:
        if declaration[0] == "function":
            wanted.update(outer_names(declaration))
    needed = [use for use in uses if use[1] in wanted and use[1] not in own]
    return Unit(tuple(needed), tuple(declarations))


def parted(unit, cut):
    """Return a list of the parts of a unit without uses; the cut tells the part of each declaration."""
    uses = first_uses(unit)
    parts = []
    for number in range(max(cut, default=0) + 1):
        chosen = [row for row, at in zip(unit.declarations, cut) if at == number]
        parts.append(part(chosen, uses))
    return parts


def whole(units):
    """Return the unit without uses that has the declarations of all units."""
    return Unit((), tuple([row for unit in units for row in unit.declarations]))
