"""Runs two middles in step, as point 41 says; for tests."""

from sameruns.middle.flows import Middle
from sameruns.middle.walking import Walker
from sameruns.papers.skips import padded
from tests.oracle import operation
from tests.walker import read_by


def holds(fact, variables, walker, depth):
    """Point 31: True if a fact holds at this moment of a walker."""
    kind = fact[0]
    if kind == "nonzero":
        return variables[fact[1]] != 0
    if kind == "inside":
        return variables[fact[1]] in range(fact[2])
    if kind == "depth":
        return walker.opened() + fact[1] <= depth
    if kind == "read":
        return variables[fact[1]] == walker.global_word(fact[2])
    if kind == "load":
        row = walker.local_items()[fact[2]] if isinstance(fact[2], int) else walker.global_items(fact[2])
        return variables[fact[3]] in range(len(row)) and variables[fact[1]] == row[variables[fact[3]]]
    words = [variables[variable] for variable in read_by(fact)]
    if kind == "word":
        return variables[fact[1]] == fact[2]
    if kind == "copy":
        return variables[fact[1]] == words[0]
    return variables[fact[1]] == operation(fact[2], words[0], words[1] if kind == "op" else fact[4])


def check_in_step(test, middle, pairs, depth=32, rounds=20, steps=150):
    """Check point 41 for a middle and a dict from names to pairs (after flow, paper); return the number of steps."""
    first = Middle(middle.words, middle.arrays, [padded(flow, pairs[flow.name][1].spots) for flow in middle.flows])
    second = Middle(middle.words, middle.arrays, [pairs[flow.name][0] for flow in middle.flows])
    before, after = Walker(first, depth=depth), Walker(second, depth=depth)
    for step in range(steps + 1):
        before.go(rounds=rounds, steps=step)
        if before.run().end == ("wild",):
            return step
        after.go(rounds=rounds, steps=step)
        one, other = before.run(), after.run()
        test.assertEqual((one.shown(), one.steps), (other.shown(), other.steps))
        if one.end is not None or one.steps < step:
            return step
        test.assertEqual((before.place(), before.opened()), (after.place(), after.opened()))
        for name, _ in middle.words:
            test.assertEqual(before.global_word(name), after.global_word(name))
        name, block, position = before.place()
        if position == 0:
            entry = pairs[name][1].entries[block]
            test.assertIsNotNone(entry)
            here, there = before.variables(), after.variables()
            test.assertEqual([here[v] for v in entry[0]], [there[v] for v in entry[0]])
            for fact in entry[1]:
                test.assertTrue(holds(fact, there, after, depth), (fact, there))
    return steps
