"""The shop, which keeps units and compiles them."""

from sameruns.basics.errors import BadName, NoUnit
from sameruns.basics.runs import check_depth
from sameruns.homes.cells import free_registers
from sameruns.lang.tokens import is_name
from sameruns.lang.unitreading import read_unit
from sameruns.objects.linking import check_base, link
from sameruns.papers.improving import check_passes
from sameruns.whole.compiling import compiled


class Shop:
    """Units by name, each with its text and its object."""

    def __init__(self, *passes, free=8, depth=32, base=4096):
        check_passes(passes)
        free_registers(free)
        check_depth(depth)
        check_base(base)
        self.passes = passes
        self.free = free
        self.depth = depth
        self.base = base
        # For each name the tuple (text, tree, object). A deed makes a new dict, so the earlier ones stay as they are.
        self.units = {}
        self.earlier = []
        self.record = []

    def put(self, name, text):
        """Put a unit under a name; return True if it was compiled."""
        units, is_compiled = self.with_put(name, text, self.units)
        self.follow(units)
        return is_compiled

    def drop(self, name):
        """Remove the unit with this name."""
        self.follow(without(name, self.units))

    def follow(self, units):
        """Have other units from now on, by a deed."""
        self.earlier.append(self.units)
        self.units = units

    def undo(self):
        """Take the last deed back; return False if there is none."""
        if not self.earlier:
            return False
        self.units = self.earlier.pop()
        return True

    def with_put(self, name, text, units):
        """Return the tuple (units, whether one was compiled): these units after a put."""
        if not is_name(name):
            raise BadName(name)
        unit = read_unit(text)
        # A tree that is known was checked when it was compiled.
        is_known = name in units and units[name][1] == unit.parts()
        if is_known:
            made = units[name][2]
        else:
            made = compiled(unit, *self.passes, free=self.free)
            self.record.append(name)
        changed = dict(units)
        changed[name] = (text, unit.parts(), made)
        return (changed, not is_known)

    def order(self):
        """Return a list of the names in their order."""
        return list(self.units)

    def text(self, name):
        """Return the text of a unit."""
        check_there(name, self.units)
        return self.units[name][0]

    def made(self, name):
        """Return the object of a unit."""
        check_there(name, self.units)
        return self.units[name][2]

    def compilations(self):
        """Return a list of the names of what was compiled, in the order of time."""
        return list(self.record)

    def image(self):
        """Return the image of all units."""
        return self.linked(self.units)

    def image_with(self, changes):
        """Return the image of the units after some changes, and keep the units as they are."""
        units = self.units
        for name, text in changes:
            if text is None:
                units = without(name, units)
            else:
                units, _ = self.with_put(name, text, units)
        return self.linked(units)

    def linked(self, units):
        """Return the image of these units; without units there is no function main."""
        objects = [made for _, _, made in units.values()]
        depth, base = self.depth, self.base
        return link(*objects, depth=depth, base=base)


def check_there(name, units):
    """Refuse a name that no unit has."""
    if name not in units:
        raise NoUnit(name)


def without(name, units):
    """Return a dict of these units without the one with this name."""
    check_there(name, units)
    return {other: units[other] for other in units if other != name}
