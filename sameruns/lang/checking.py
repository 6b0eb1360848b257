"""Checking units."""

from sameruns.basics.errors import BadLength, BadName, BadNumber, Stray, Twice, Unknown, Unlike
from sameruns.basics.words import GREATEST
from sameruns.lang.tokens import is_name
from sameruns.lang.trees import in_order, looped
from sameruns.lang.units import functions_of, use_of

LONGEST_GLOBAL = 1000
LONGEST_LOCAL = 32

# What the name in such an expression or statement must stand for.
WANTED_KIND = {
    "var": "word", "set": "word", "item": "array", "put": "array", "call": "function", "do": "function",
}


def check_unit(unit):
    """Return None, or raise the first error of a unit."""
    found = {}
    for use in unit.uses:
        check_name(use[1], found)
        check_length(use, LONGEST_GLOBAL)
        found[use[1]] = use
    for declaration in unit.declarations:
        check_name(declaration[1], found)
        check_length(declaration, LONGEST_GLOBAL)
        check_initial(declaration)
        check_inner_names(declaration)
        found[declaration[1]] = use_of(declaration)
    for function in functions_of(unit):
        check_body(function, found)


def check_name(name, found):
    """Refuse a name that is no name of the language or that is there already."""
    if not is_name(name):
        raise BadName(name)
    if name in found:
        raise Twice(name)


def check_length(row, longest):
    """Refuse an array whose length is out of its bounds."""
    if row[0] == "array" and not 1 <= row[2] <= longest:
        raise BadLength(row[1])


def check_initial(declaration):
    """Refuse a declared word whose initial word is out of its bounds."""
    if declaration[0] == "word" and not -GREATEST <= declaration[2] <= GREATEST:
        raise BadNumber(declaration[2])


def check_inner_names(declaration):
    """Refuse a function with a bad parameter or local."""
    if declaration[0] != "function":
        return
    found = {}
    for param in declaration[2]:
        check_name(param, found)
        found[param] = True
    for local in declaration[3]:
        check_name(local[1], found)
        check_length(local, LONGEST_LOCAL)
        found[local[1]] = True


def check_body(function, outer):
    """Refuse a function with a bad statement."""
    known = dict(outer)
    for param in function[2]:
        known[param] = ("word", param)
    for local in function[3]:
        known[local[1]] = local
    for number, statement, inside in looped(function[4]):
        if statement[0] in ("break", "continue") and not inside:
            raise Stray(function[1], number)
        for node in in_order(statement):
            check_node(node, known)


def check_node(node, known):
    """Refuse an expression or statement whose own name or number is bad."""
    if node[0] == "num" and not 0 <= node[1] <= GREATEST:
        raise BadNumber(node[1])
    if node[0] not in WANTED_KIND:
        return
    name = node[1]
    if name not in known:
        raise Unknown(name)
    found = known[name]
    if found[0] != WANTED_KIND[node[0]]:
        raise Unlike(name)
    if found[0] == "function" and found[2] != len(node[2]):
        raise Unlike(name)
