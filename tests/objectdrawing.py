"""Draws objects, from a number; for tests."""

import random

from sameruns.objects.objects import Object
from tests.secondrows import TABLE, ranges, second_encode

NAMES = ("g", "main", "f", "t", "x1", "abcdefgh", "z9", "q")
KINDS = ("tell", "call", "divide", "index", "depth")


def drawn_row(chance):
    """A row of the table."""
    name = chance.choice(sorted(TABLE))
    return (name, *[chance.choice((values[0], values[-1], chance.choice(values))) for values in ranges(name)])


def open_row(chance):
    """A tuple (row, kind) of a row with an open place."""
    kind = chance.choice(("call", "high", "low"))
    one, other = chance.randint(0, 31), chance.randint(0, 31)
    if kind == "call":
        return ("jal", one, 0), kind
    if kind == "high":
        return ("lui", one, 0), kind
    return (chance.choice(("addi", "lw", "sw")), one, other, 0), kind


def drawn_chain(chance):
    """A chain."""
    return tuple([(chance.choice(NAMES), chance.choice((0, 199, chance.randint(0, 199)))) for _ in range(chance.choice((1, 1, 2, 8)))])


def drawn_need(chance, name):
    """A need."""
    return chance.choice(((name, "word", 0), (name, "array", chance.choice((1, 1000, 7))), (name, "function", chance.randint(0, 6))))


def drawn_object(seed, functions=4, words=8):
    """An object; what its places name need not be there."""
    chance = random.Random(seed)
    code, starts, places, marks = [], [], [], []
    for _ in range(chance.randint(0, functions)):
        starts.append((chance.choice(NAMES), len(code), chance.randint(0, 6), 4 * chance.choice((1, 2, 511, chance.randint(1, 511)))))
        for _ in range(chance.randint(1, words)):
            row = drawn_row(chance)
            if chance.random() < 0.3:
                row, kind = open_row(chance)
                places.append((len(code), kind, chance.choice(NAMES)))
            if chance.random() < 0.3:
                marks.append((len(code), chance.choice(KINDS), drawn_chain(chance)))
            code.append(second_encode(row))
    data = []
    for _ in range(chance.randint(0, 3)):
        name = chance.choice(NAMES)
        initial = chance.choice((0, -1, 5, -2147483648, 2147483647))
        data.append(chance.choice(((name, 0, initial), (name, chance.choice((1, 5, 1000)), 0))))
    needs = list(dict.fromkeys([drawn_need(chance, chance.choice(NAMES)) for _ in range(chance.randint(0, 3))]))
    return Object(tuple(code), tuple(starts), tuple(data), tuple(needs), tuple(places), tuple(marks))
