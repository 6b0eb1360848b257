"""What can be said of a tree: its parts, levels, nodes and the numbers of its statements."""


def parts_of(tree):
    """Return the expressions that stand directly in an expression or a statement, in order."""
    kind = tree[0]
    if kind in ("item", "un", "bin", "set", "put"):
        return tree[2:]
    if kind in ("call", "do"):
        return tree[2]
    if kind in ("tell", "return", "if", "while"):
        return tree[1:2]
    return ()


def blocks_of(statement):
    """Return the blocks of a statement, in order."""
    if statement[0] in ("if", "while"):
        return statement[2:]
    return ()


def levels(expression):
    """Return the number of levels of an expression."""
    greatest = 0
    waiting = [(expression, 1)]
    while waiting:
        tree, level = waiting.pop()
        greatest = max(greatest, level)
        waiting.extend([(part, level + 1) for part in parts_of(tree)])
    return greatest


def nodes(tree):
    """Return the number of nodes of an expression or a statement."""
    count = 0
    waiting = [tree]
    while waiting:
        node = waiting.pop()
        count += 1
        waiting.extend(parts_of(node))
        for block in blocks_of(node):
            waiting.extend(block)
    return count


def in_order(tree):
    """Return a list of a tree and of all expressions inside it, but for those of its blocks, as they are written."""
    found = []
    waiting = [tree]
    while waiting:
        node = waiting.pop()
        found.append(node)
        waiting.extend(parts_of(node)[::-1])
    return found


def looped(body):
    """Return a list of tuples (number, statement, True if it is inside of a while), numbers ascending."""
    found = []
    waiting = [(statement, False) for statement in body[::-1]]
    while waiting:
        statement, inside = waiting.pop()
        found.append((len(found), statement, inside))
        inside = inside or statement[0] == "while"
        for block in blocks_of(statement)[::-1]:
            waiting.extend([(inner, inside) for inner in block[::-1]])
    return found


def numbered(body):
    """Return a list of the tuples (number, statement) of a body, in the order of the numbers."""
    return [(number, statement) for number, statement, _ in looped(body)]
