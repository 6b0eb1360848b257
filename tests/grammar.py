"""The grammar of point 10 as it stands there, and how far tokens are the beginning of a unit; for tests.

This asks the grammar itself (by Earley's way), not a reader that was made from it.
"""

RULES = {
    "unit": [["uses", "declarations"]],
    "uses": [[], ["uses", "usage"]],
    "declarations": [[], ["declarations", "declaration"]],
    "usage": [["use", "word", "NAME", "useend"]],
    "useend": [[";"], ["[", "NUMBER", "]", ";"], ["(", "NUMBER", ")", ";"]],
    "declaration": [["word", "NAME", "declend"]],
    "declend": [
        [";"], ["=", "NUMBER", ";"], ["=", "-", "NUMBER", ";"], ["[", "NUMBER", "]", ";"],
        ["(", ")", "{", "locals", "statements", "}"], ["(", "params", ")", "{", "locals", "statements", "}"],
    ],
    "params": [["word", "NAME"], ["params", ",", "word", "NAME"]],
    "locals": [[], ["locals", "local"]],
    "local": [["word", "NAME", ";"], ["word", "NAME", "[", "NUMBER", "]", ";"]],
    "block": [["{", "statements", "}"]],
    "statements": [[], ["statements", "statement"]],
    "statement": [
        ["NAME", "=", "expression", ";"], ["NAME", "[", "expression", "]", "=", "expression", ";"],
        ["NAME", "(", ")", ";"], ["NAME", "(", "args", ")", ";"], ["tell", "expression", ";"],
        ["return", "expression", ";"], ["if", "(", "expression", ")", "block"],
        ["if", "(", "expression", ")", "block", "else", "block"], ["while", "(", "expression", ")", "block"],
        ["break", ";"], ["continue", ";"],
    ],
    "args": [["expression"], ["args", ",", "expression"]],
    "operand": [
        ["NUMBER"], ["NAME"], ["NAME", "[", "expression", "]"], ["NAME", "(", ")"], ["NAME", "(", "args", ")"],
        ["(", "expression", ")"], ["-", "operand"], ["~", "operand"], ["!", "operand"],
    ],
    "expression": [["operand"], ["expression", "binary", "operand"]],
    "binary": [[sign] for sign in (
        "* / mod + - << >> < <= > >= == != & ^ | && ||".split())],
}


def closed(items, columns):
    """All items that follow from these at the last column."""
    at = len(columns)
    found = list(items)
    seen = set(found)
    waiting = list(found)
    empties = set()
    while waiting:
        name, rule, dot, start = waiting.pop()
        body = RULES[name][rule]
        new = []
        if dot == len(body):
            source = seen if start == at else columns[start]
            if start == at:
                empties.add(name)
            for other in list(source):
                rest = RULES[other[0]][other[1]]
                if other[2] < len(rest) and rest[other[2]] == name:
                    new.append((other[0], other[1], other[2] + 1, other[3]))
        elif body[dot] in RULES:
            new = [(body[dot], index, 0, at) for index in range(len(RULES[body[dot]]))]
            if body[dot] in empties:
                new.append((name, rule, dot + 1, start))
        for item in new:
            if item not in seen:
                seen.add(item)
                waiting.append(item)
    return seen


def first_refused(texts):
    """The index of the first token with which no unit goes on, the number of tokens if they end too early, or None."""
    columns = []
    items = closed([("unit", 0, 0, 0)], columns)
    for index, text in enumerate(texts):
        columns.append(items)
        moved = [
            (name, rule, dot + 1, start) for name, rule, dot, start in items
            if dot < len(RULES[name][rule]) and RULES[name][rule][dot] == text
        ]
        if not moved:
            return index
        items = closed(moved, columns)
    whole = any(name == "unit" and dot == 2 for name, _, dot, _ in items)
    return None if whole else len(texts)
