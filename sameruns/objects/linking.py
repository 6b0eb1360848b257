"""Linking objects to an image."""

from sameruns.basics.errors import BadBase, Missing, NoMain, Twice, Unlike
from sameruns.basics.runs import check_depth
from sameruns.basics.words import high, low
from sameruns.objects.images import Image
from sameruns.objects.places import filled
from sameruns.rows.coding import encode

GREATEST_BASE = 1048576
# The bytes of the start, and the addresses of its jal and of its ebreak, from the base on.
START = 20
START_CALL = 12
START_END = 16


def link(*objects, depth=32, base=4096):
    """Return the image of one or more objects."""
    check_depth(depth)
    check_base(base)
    found = definitions(objects)
    for made in objects:
        for need in made.needs:
            check_need(need, found)
    if "main" not in found or found["main"][1] != "function":
        raise NoMain()
    if found["main"][2] != 0:
        raise Unlike("main")
    plan = Plan(objects, base)
    top = plan.end + depth * max([frame for _, _, frame in plan.functions])
    words = [*start_words(depth, top, plan.addresses["main"] - base - START_CALL), *plan.filled_words(objects)]
    marks = [(base + START_END, "end", ()), *plan.marks]
    return Image(base, depth, top, words, plan.data, plan.functions, plan.names, marks)


def check_base(base):
    """Refuse an address at which no image can begin."""
    if not 0 <= base <= GREATEST_BASE or base & 3 != 0:
        raise BadBase(base)


def definitions(objects):
    """Return a dict with the need that each definition meets, by its name; refuse a name that is defined twice."""
    found = {}
    for made in objects:
        needs = [(name, "function", params) for name, _, params, _ in made.functions]
        needs.extend([(name, "array" if length else "word", length) for name, length, _ in made.data])
        for need in needs:
            if need[0] in found:
                raise Twice(need[0])
            found[need[0]] = need
    return found


def check_need(need, found):
    """Refuse a need that no definition meets."""
    if need[0] not in found:
        raise Missing(need[0])
    if found[need[0]] != need:
        raise Unlike(need[0])


class Plan:
    """Where the parts of the objects lie in an image with this base."""

    def __init__(self, objects, base):
        self.base = base
        self.functions = []
        self.marks = []
        self.names = []
        self.data = []
        self.end = base + START
        for made in objects:
            self.add_code(made)
        for made in objects:
            self.add_data(made)
        self.addresses = {name: address for name, address, _ in self.functions}
        self.addresses.update({name: address for name, address in self.names})

    def add_code(self, made):
        """Put the words of an object behind those of the ones before."""
        for name, start, _, frame in made.functions:
            self.functions.append((name, self.end + 4 * start, frame))
        for index, kind, chain in made.marks:
            self.marks.append((self.end + 4 * index, kind, chain))
        self.end += 4 * len(made.words)

    def add_data(self, made):
        """Put the data of an object behind those of the ones before."""
        for name, length, initial in made.data:
            self.names.append((name, self.end))
            cells = [0] * length if length else [initial]
            self.data.extend(cells)
            self.end += 4 * len(cells)

    def filled_words(self, objects):
        """Return a list of the words of the objects with all places filled."""
        words = []
        for made in objects:
            first = len(words)
            words.extend(made.words)
            for index, kind, name in made.places:
                at = first + index
                here = self.base + START + 4 * at if kind == "call" else 0
                words[at] = filled(words[at], kind, self.addresses[name] - here)
        return words


def start_words(depth, top, distance):
    """Return a list of the instruction words of the start."""
    rows = (
        ("lui", 2, high(top)), ("addi", 2, 2, low(top)), ("addi", 4, 0, depth - 1), ("jal", 1, distance), ("ebreak",),
    )
    return [encode(row) for row in rows]
