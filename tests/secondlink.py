"""A second reading of points 64 to 66, and drawn objects that can be linked; for tests."""

import random

from sameruns.objects.objects import Object
from tests.objectdrawing import KINDS, drawn_chain, drawn_row, open_row
from tests.secondrows import bits, part, second_encode


def second_filled(word, kind, number):
    """Point 66."""
    text = bits(word, 32)
    low = (number + 2048) % 4096 - 2048
    if kind == "call":
        way = bits(number, 21)
        text = part(way, 20, 20) + part(way, 10, 1) + part(way, 11, 11) + part(way, 19, 12) + part(text, 11, 0)
    elif kind == "high":
        text = bits((number - low) // 4096, 20) + part(text, 11, 0)
    elif part(text, 6, 0) == bits(35, 7):
        imm = bits(low, 12)
        text = part(imm, 11, 5) + part(text, 24, 12) + part(imm, 4, 0) + part(text, 6, 0)
    else:
        text = bits(low, 12) + part(text, 19, 0)
    return int(text, 2)


def second_link(objects, depth, base):
    """The parts of the image of objects that can be linked."""
    words = [None] * 5
    functions, marks, places, data, names = [], [(base + 16, "end", ())], [], [], []
    for made in objects:
        first = len(words)
        functions += [(name, base + 4 * (first + start), frame) for name, start, _, frame in made.functions]
        marks += [(base + 4 * (first + index), kind, chain) for index, kind, chain in made.marks]
        places += [(first + index, kind, name) for index, kind, name in made.places]
        words += made.words
    data_start = base + 4 * len(words)
    for made in objects:
        for name, length, initial in made.data:
            names.append((name, data_start + 4 * len(data)))
            data += [0] * length if length else [initial]
    top = data_start + 4 * len(data) + depth * max(frame for _, _, frame in functions)
    where = dict([(name, at) for name, at, _ in functions] + names)
    for index, kind, name in places:
        words[index] = second_filled(words[index], kind, where[name] - (base + 4 * index if kind == "call" else 0))
    low = (top + 2048) % 4096 - 2048
    words[:5] = [second_encode(row) for row in (("lui", 2, (top - low) // 4096), ("addi", 2, 2, low), ("addi", 4, 0, depth - 1),
                                                ("jal", 1, where["main"] - base - 12), ("ebreak",))]
    return (base, depth, top, tuple(words), tuple(data), data_start, tuple(functions), tuple(names), tuple(marks))


def drawn_objects(seed, most=5, words=6):
    """A list of objects that can be linked in any order."""
    chance = random.Random(seed)
    count = chance.randint(1, most)
    names = [f"n{k}" for k in range(chance.randint(0, 8))]
    rows = {name: chance.choice((("function", chance.randint(0, 6)), ("word", 0), ("array", chance.choice((1, 3, 40, 1000))))) for name in names}
    rows["main"] = ("function", 0)
    home = {name: chance.randrange(count) for name in rows}
    order = sorted(rows, key=lambda _: chance.random())
    objects = []
    for number in range(count):
        own = [name for name in order if home[name] == number]
        needs = [(name, *rows[name]) for name in order if name not in own and chance.random() < 0.5]
        seen = {name: rows[name][0] for name in own} | {name: kind for name, kind, _ in needs}
        code, functions, places, marks = [], [], [], []
        for name in [name for name in own if rows[name][0] == "function"]:
            functions.append((name, len(code), rows[name][1], 4 * chance.randint(1, 511)))
            for _ in range(chance.randint(1, words)):
                row, (wanted_row, kind) = drawn_row(chance), open_row(chance)
                fitting = [name for name, is_what in seen.items() if (is_what == "function") == (kind == "call")]
                if fitting and chance.random() < 0.5:
                    row = wanted_row
                    places.append((len(code), kind, chance.choice(fitting)))
                if chance.random() < 0.3:
                    marks.append((len(code), chance.choice(KINDS), drawn_chain(chance)))
                code.append(second_encode(row))
        data = [(name, rows[name][1], chance.choice((0, 5, -1, -2147483648)) if rows[name][0] == "word" else 0)
                for name in own if rows[name][0] != "function"]
        objects.append(Object(code, functions, data, needs, places, marks))
    return objects
