"""Checking programs."""

from sameruns.basics.errors import Missing, NoMain, Twice, Unlike
from sameruns.lang.checking import check_unit
from sameruns.lang.units import use_of


def check_program(units):
    """Return None, or raise the first error of a program, a list of units."""
    for unit in units:
        check_unit(unit)
    found = declared(units)
    for unit in units:
        for use in unit.uses:
            check_use(use, found)
    if "main" not in found or found["main"][0] != "function":
        raise NoMain()
    if found["main"][2] != 0:
        raise Unlike("main")


def declared(units):
    """Return a dict with the use for each declared name; refuse a name that two units declare."""
    found = {}
    for unit in units:
        for declaration in unit.declarations:
            name = declaration[1]
            if name in found:
                raise Twice(name)
            found[name] = use_of(declaration)
    return found


def check_use(use, found):
    """Refuse a use that no unit declares, or declares otherwise."""
    if use[1] not in found:
        raise Missing(use[1])
    if found[use[1]] != use:
        raise Unlike(use[1])
