"""The 14 operations on words."""

from sameruns.basics.words import wrap

OPERATIONS = (
    "add", "sub", "mul", "and", "or", "xor", "shl", "sar",
    "lt", "le", "eq", "ne", "quo", "mod",
)


def result(name, a, b):
    """Return the word that the operation of this name gives for two words."""
    action = ACTIONS[name]
    return action(a, b)


def plus(a, b):
    """Return the word of the sum."""
    return wrap(a + b)


def minus(a, b):
    """Return the word of the difference."""
    return wrap(a - b)


def times(a, b):
    """Return the word of the product."""
    return wrap(a * b)


def both(a, b):
    """Return the bits that stand in both words."""
    return a & b


def either(a, b):
    """Return the bits that stand in one word or in both."""
    return a | b


def differing(a, b):
    """Return the bits that stand in one word only."""
    return a ^ b


def shifted_left(a, b):
    """Return a word shifted to the left by the last five bits of the other one."""
    return wrap(a << (b & 31))


def shifted_right(a, b):
    """Return a word shifted to the right, with its sign, by the last five bits of the other one."""
    return a >> (b & 31)


def less(a, b):
    """Return 1 if the first word is less, otherwise 0."""
    return 1 if a < b else 0


def at_most(a, b):
    """Return 1 if the first word is not greater, otherwise 0."""
    return 1 if a <= b else 0


def same(a, b):
    """Return 1 if the words are equal, otherwise 0."""
    return 1 if a == b else 0


def other(a, b):
    """Return 1 if the words are not equal, otherwise 0."""
    return 1 if a != b else 0


def cut_off(a, b):
    """Return the exact quotient cut off toward zero, which may be 2^31."""
    found = abs(a) // abs(b)
    return found if (a < 0) == (b < 0) else -found


def quotient(a, b):
    """Return the quotient as a word, -1 for a division by 0."""
    return -1 if b == 0 else wrap(cut_off(a, b))


def remainder(a, b):
    """Return what the quotient leaves, which has the sign of the first word."""
    return a if b == 0 else a - b * cut_off(a, b)


ACTIONS = {
    "add": plus, "sub": minus, "mul": times, "and": both, "or": either, "xor": differing,
    "shl": shifted_left, "sar": shifted_right, "lt": less, "le": at_most, "eq": same, "ne": other,
    "quo": quotient, "mod": remainder,
}
