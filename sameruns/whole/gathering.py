"""The object of a unit from its flows and their homes."""

from sameruns.homes.renaming import renamed
from sameruns.objects.objects import Object
from sameruns.rows.emitting import emitted


def object_of(unit, flows, homes):
    """Return the object of a unit with these flows, each with its homes."""
    pieces = [emitted(renamed(flow, own)) for flow, own in zip(flows, homes)]
    return Object.gathered(tuple(pieces), data_of(unit), needs_of(unit))


def data_of(unit):
    """Return the tuple of the data of a unit, its global words and then its global arrays."""
    words = [(row[1], 0, row[2]) for row in unit.declarations if row[0] == "word"]
    arrays = [(row[1], row[2], 0) for row in unit.declarations if row[0] == "array"]
    return (*words, *arrays)


def needs_of(unit):
    """Return the tuple of the needs of a unit."""
    return tuple([(use[1], use[0], 0 if use[0] == "word" else use[2]) for use in unit.uses])
