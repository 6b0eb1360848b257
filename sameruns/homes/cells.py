"""The cells that variables may have as their homes."""

from sameruns.basics.errors import BadFree

REGISTERS = (8, 10, 9, 11, 18, 12, 19, 13, 20, 14, 21, 15, 22, 16, 23, 17, 24, 25, 26, 27)
LOST = (10, 11, 12, 13, 14, 15, 16, 17)

FIRST_SLOT = 32
LAST_SLOT = 351


def is_free(free):
    """Return True if this many registers may be free."""
    return 0 <= free <= len(REGISTERS)


def free_registers(free):
    """Return the tuple of the free registers; refuse a number that is out of its bounds."""
    if not is_free(free):
        raise BadFree(free)
    return REGISTERS[:free]


def is_slot(home):
    """Return True if a home is a slot."""
    return FIRST_SLOT <= home <= LAST_SLOT
