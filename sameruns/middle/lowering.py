"""Lowering units to middle code."""

from sameruns.lang.units import functions_of, use_of
from sameruns.middle.building import FlowBuilder
from sameruns.middle.flows import Middle
from sameruns.middle.statements import lower_block


def lower(unit):
    """Return the middle of a checked unit."""
    known = {use[1]: use for use in unit.uses}
    for declaration in unit.declarations:
        known[declaration[1]] = use_of(declaration)
    words = [(row[1], row[2]) for row in unit.declarations if row[0] == "word"]
    arrays = [(row[1], row[2]) for row in unit.declarations if row[0] == "array"]
    flows = [lower_function(function, known) for function in functions_of(unit)]
    return Middle(tuple(words), tuple(arrays), tuple(flows))


def lower_function(function, known):
    """Return the flow of a function; the dict tells what the global names of its unit are."""
    builder = FlowBuilder(function, known)
    lower_block(builder, function[4])
    if builder.current is not None:
        zero = builder.new_variable()
        builder.emit(("word", zero, 0))
        builder.close(("back", zero))
    return builder.built()
