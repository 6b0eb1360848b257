"""The listings of objects."""

from sameruns.rows.coding import decode
from sameruns.rows.rowtext import open_row_text, row_text


def listing(made):
    """Return a list with the lines of the listing of an object."""
    lines = [need_line(need) for need in made.needs]
    lines.extend([datum_line(datum) for datum in made.data])
    functions = {start: (name, params, frame) for name, start, params, frame in made.functions}
    places = {index: f"{kind} {name}" for index, kind, name in made.places}
    marks = {index: mark_line(kind, chain) for index, kind, chain in made.marks}
    for index, word in enumerate(made.words):
        if index in functions:
            name, params, frame = functions[index]
            lines.append(f"function {name} {params} {frame}")
        if index in marks:
            lines.append(marks[index])
        row = decode(word)
        lines.append("  " + (open_row_text(row, places[index]) if index in places else row_text(row)))
    return lines


def need_line(need):
    """Return the line of a need."""
    name, kind, count = need
    return f"need word {name}" if kind == "word" else f"need {kind} {name} {count}"


def datum_line(datum):
    """Return the line of a datum."""
    name, length, initial = datum
    return f"word {name} {initial}" if length == 0 else f"array {name} {length}"


def mark_line(kind, chain):
    """Return the line of a mark."""
    return " ".join(["mark", kind, *[f"{function}:{number}" for function, number in chain]])
