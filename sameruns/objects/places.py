"""Filling the open places of instruction words."""

from sameruns.basics.words import high, low
from sameruns.rows.coding import with_number

STORE_OPCODE = 35


def filled(word, kind, number):
    """Return the instruction word with its open number exchanged for a distance or for a part of an address."""
    if kind == "call":
        return with_number(word, "far", number)
    if kind == "high":
        return with_number(word, "value", high(number))
    return with_number(word, "parted" if word & 127 == STORE_OPCODE else "imm", low(number))
