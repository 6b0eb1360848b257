"""A second reading of points 29, 31 to 33, 35 to 40 and 42, in plain steps that take no short way; for tests."""

from tests.oracle import operation
from tests.walker import assigned_by, leads_to, read_by

SINGLE = ("word", "copy", "op", "with", "read", "load")
PLAIN = (*SINGLE, "moves", "skip")
CHECKS = ("nonzero", "inside", "depth")


def mentions(fact):
    """The set of the variables that a fact mentions."""
    if fact[0] in CHECKS:
        return set(fact[1:2]) if fact[0] != "depth" else set()
    return {*read_by(fact), *assigned_by(fact)}


def known(facts, variable):
    """The word as which a variable is known, or None."""
    return next((fact[2] for fact in facts if fact[0] == "word" and fact[1] == variable), None)


def implied(facts, fact):
    """Point 32."""
    if fact in facts:
        return True
    if fact[0] == "copy":
        _, v, a = fact
        return v == a or ("copy", a, v) in facts or (known(facts, v) is not None and known(facts, v) == known(facts, a))
    if fact[0] == "nonzero":
        return known(facts, fact[1]) is not None and known(facts, fact[1]) != 0
    if fact[0] == "inside":
        word = known(facts, fact[1])
        if word is not None and word in range(fact[2]):
            return True
        return any(f[0] == "inside" and f[1] == fact[1] and f[2] <= fact[2] for f in facts)
    return fact[0] == "depth" and any(f[0] == "depth" and f[1] >= fact[1] for f in facts)


def after(facts, deed):
    """Point 33."""
    kind = deed[0]
    kept = [fact for fact in facts if not mentions(fact) & set(assigned_by(deed))]
    if kind == "write":
        kept = [fact for fact in kept if not (fact[0] == "read" and fact[2] == deed[1])]
    if kind == "store":
        kept = [fact for fact in kept if not (fact[0] == "load" and fact[2] == deed[1])]
    if kind == "call":
        kept = [f for f in kept if f[0] != "read" and not (f[0] == "load" and isinstance(f[2], str))]
    new = []
    if kind in ("word", "read") or (kind in ("copy", "op", "with", "load") and deed[1] not in read_by(deed)):
        new = [deed]
    elif kind == "moves":
        new = [("copy", d, a) for d, a in zip(deed[1], deed[2]) if a not in deed[1]]
    elif kind == "write":
        new = [("read", deed[2], deed[1])]
    elif kind == "store":
        new = [("load", deed[3], deed[1], deed[2])]
    elif kind in CHECKS:
        new = [deed[:-1]]
    for fact in new:
        if fact not in kept:
            kept.append(fact)
    return tuple(kept)


def bare(deed):
    """A deed without the variables that it reads, but with their number."""
    kind = deed[0]
    hidden = {"copy": (2,), "op": (3, 4), "with": (3,), "load": (3,), "moves": (2,), "write": (2,), "store": (2, 3),
              "nonzero": (1,), "inside": (1,), "call": (3,), "tell": (1,), "fork": (1,), "back": (1,)}.get(kind, ())
    return (tuple([entry for at, entry in enumerate(deed) if at not in hidden]), len(read_by(deed)))


def neutral(name, n):
    """True if an operation with n is neutral."""
    if name in ("add", "sub", "or", "xor", "shl", "sar"):
        return n == 0
    return n == 1 if name in ("mul", "quo") else name == "and" and n == -1


class Place:
    """The agreeing variables and facts of a walk."""

    def __init__(self, agreeing, facts):
        self.agreeing, self.facts = set(agreeing), tuple(facts)

    def like(self, a, b):
        return a in self.agreeing and (a == b or ("copy", a, b) in self.facts or ("copy", b, a) in self.facts)

    def alike(self, x, y):
        """The same but for like variables."""
        return bare(x) == bare(y) and all(self.like(a, b) for a, b in zip(read_by(x), read_by(y)))

    def matches(self, x, y):
        """Point 38."""
        agree = all(v in self.agreeing for v in read_by(x))
        words = [known(self.facts, v) for v in read_by(x)]
        if self.alike(x, y):
            return True
        if y[0] == "word" and x[0] in ("copy", "op", "with") and agree and None not in words:
            if x[0] == "copy":
                gives = words[0]
            else:
                gives = operation(x[2], words[0], words[1] if x[0] == "op" else x[4])
            if gives == y[2]:
                return True
        if y[0] == "with" and x[0] == "op" and x[2] == y[2] and self.like(x[3], y[3]):
            if x[4] in self.agreeing and known(self.facts, x[4]) == y[4]:
                return True
        if y[0] == "copy" and agree and (x[0], y[2], *x[2:]) in self.facts:
            return True
        if y[0] == "copy" and x[0] == "with":
            return self.like(x[3], y[2]) and neutral(x[2], x[4])
        if y[0] == "copy" and x[0] == "op" and x[4] in self.agreeing:
            return self.like(x[3], y[2]) and neutral(x[2], known(self.facts, x[4]))
        return False

    def step(self, x, y):
        """Point 37; True if one of the cases applies."""
        if x[0] in PLAIN and y[0] in PLAIN:
            if y[0] == "load" and not (x[0] == "load" and x[2] == y[2] and self.like(x[3], y[3])):
                return False
            if y[0] == "read" and not (x[0] == "read" and x[2] == y[2]):
                return False
            shared = set()
            if x[0] in SINGLE and y[0] in SINGLE and x[1] == y[1] and self.matches(x, y):
                shared = {x[1]}
            if x[0] == y[0] == "moves":
                sources = dict(zip(y[1], y[2]))
                shared = {d for d, a in zip(x[1], x[2]) if d in sources and self.like(a, sources[d])}
            self.agreeing = (self.agreeing - set(assigned_by(x)) - set(assigned_by(y))) | shared
        elif x[0] in CHECKS and y == ("skip",):
            if not all(v in self.agreeing for v in read_by(x)) or not implied(self.facts, x[:-1]):
                return False
        elif x[0] in PLAIN or y[0] in PLAIN or not self.alike(x, y):
            return False
        elif x[0] == "call":
            self.agreeing.add(x[1])
        self.facts = after(self.facts, y)
        return True

    def end(self, x, y):
        """Point 39."""
        if x[0] == "fork" and y[0] == "jump" and x[1] in self.agreeing:
            if y[1] == x[2] and implied(self.facts, ("nonzero", x[1])):
                return True
            return y[1] == x[3] and known(self.facts, x[1]) == 0
        return self.alike(x, y)

    def leads(self, y, entries):
        """Point 40."""
        for target in leads_to((y,)):
            facts = list(self.facts)
            if y[0] == "fork" and y[2] != y[3]:
                fact = ("nonzero", y[1]) if target == y[2] else ("word", y[1], 0)
                facts += [fact] if fact not in facts else []
            if entries[target] is None or not set(entries[target][0]) <= self.agreeing:
                return False
            if not all(implied(facts, fact) for fact in entries[target][1]):
                return False
        return True


def padded_blocks(flow, spots):
    """The blocks of a padded flow, or None if a spot is wrong."""
    places = [(b, p) for b, block in enumerate(flow.blocks) for p in range(len(block))]
    if any(spot not in places for spot in spots) or list(spots) != sorted(spots):
        return None
    blocks = [[[("skip",)] * list(spots).count((b, p)) + [deed] for p, deed in enumerate(block)]
              for b, block in enumerate(flow.blocks)]
    return [[deed for part in block for deed in part] for block in blocks]


def accepts(before, after_flow, paper):
    """Point 36."""
    if before.name != after_flow.name or before.params != after_flow.params or before.arrays != after_flow.arrays:
        return False
    if before.count > after_flow.count:
        return False
    first = padded_blocks(before, paper.spots)
    if first is None or [len(block) for block in first] != [len(block) for block in after_flow.blocks]:
        return False
    entries = paper.entries
    if len(entries) != len(first) or entries[0] is None or entries[0][1] != ():
        return False
    for entry in entries:
        if entry is None:
            continue
        if list(entry[0]) != sorted(set(entry[0])) or not set(entry[0]) <= set(range(before.count)):
            return False
        if not set().union(*[mentions(fact) for fact in entry[1]]) <= set(range(after_flow.count)):
            return False
    for xs, ys, entry in zip(first, after_flow.blocks, entries):
        if entry is None:
            continue
        place = Place(*entry)
        if not all(place.step(x, y) for x, y in zip(xs[:-1], ys[:-1])):
            return False
        if not place.end(xs[-1], ys[-1]) or not place.leads(ys[-1], entries):
            return False
    return True


def reached_blocks(flow):
    """The set of the reached blocks."""
    found, more = set(), {0}
    while more:
        found |= more
        more = {target for number in found for target in leads_to(flow.blocks[number])} - found
    return found


def is_wanted(flow, block, position, variable):
    """Point 29 by a search along the paths: True if a variable is wanted before the deed at a position."""
    seen, stack = set(), [(block, position)]
    while stack:
        place = stack.pop()
        if place in seen:
            continue
        seen.add(place)
        number, at = place
        deed = flow.blocks[number][at]
        if variable in read_by(deed):
            return True
        if variable in assigned_by(deed):
            continue
        if at + 1 < len(flow.blocks[number]):
            stack.append((number, at + 1))
        else:
            stack.extend([(target, 0) for target in leads_to(flow.blocks[number])])
    return False


def is_wanted_behind(flow, block, position, variable):
    """True if a variable is wanted behind the deed at a position."""
    if position + 1 < len(flow.blocks[block]):
        return is_wanted(flow, block, position + 1, variable)
    return any([is_wanted(flow, target, 0, variable) for target in leads_to(flow.blocks[block])])
