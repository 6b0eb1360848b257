"""Reading the listings of objects."""

from sameruns.basics.errors import BadLine
from sameruns.basics.words import GREATEST, LEAST
from sameruns.lang.tokens import is_name
from sameruns.objects.objects import Object
from sameruns.rows.coding import encode
from sameruns.rows.rowtext import read_number, read_open_row, read_row

# The rows whose last entry may be open, by the word that stands in front of the name.
OPEN_ROWS = {"call": ("jal",), "high": ("lui",), "low": ("addi", "lw", "sw")}
MARK_KINDS = ("tell", "call", "divide", "index", "depth")
MOST_PLACES = 8
LONGEST = 1000
MOST_PARAMS = 6
LEAST_FRAME = 4
GREATEST_FRAME = 2044
GREATEST_STATEMENT = 199


def read_listing(lines):
    """Return the object whose listing is this list of lines; raise BadLine if there is none."""
    reader = ListingReader()
    for index, line in enumerate(lines):
        if not reader.takes(line):
            raise BadLine(index + 1)
    if reader.needs_word():
        raise BadLine(len(lines) + 1)
    return Object(reader.words, reader.functions, reader.data, reader.needs, reader.places, reader.marks)


class ListingReader:
    """What the lines that were taken say."""

    def __init__(self):
        self.words = []
        self.functions = []
        self.data = []
        self.needs = []
        self.places = []
        self.marks = []

    def needs_word(self):
        """Return True if a function or a mark still waits for its word."""
        starts = [start for _, start, _, _ in self.functions[-1:]]
        indexes = [index for index, _, _ in self.marks[-1:]]
        return len(self.words) in [*starts, *indexes]

    def takes(self, line):
        """Take the next line; return False if it cannot stand here."""
        if line.startswith("  "):
            return bool(self.functions) and self.takes_word(line[2:])
        pieces = line.split(" ")
        if pieces[0] == "mark":
            return bool(self.functions) and self.takes_mark(pieces)
        if self.needs_word():
            return False
        if pieces[0] == "function":
            return self.takes_function(pieces)
        if self.functions:
            return False
        if pieces[0] == "need":
            return not self.data and self.takes_need(pieces)
        return self.takes_datum(pieces)

    def takes_word(self, text):
        """Take the text of an instruction word."""
        row = read_row(text)
        if row is None:
            found = read_place(text)
            if found is None:
                return False
            row, kind, name = found
            self.places.append((len(self.words), kind, name))
        self.words.append(encode(row))
        return True

    def takes_mark(self, pieces):
        """Take the pieces of the line of a mark."""
        chain = tuple([read_statement(piece) for piece in pieces[2:]])
        if not 1 <= len(chain) <= MOST_PLACES or None in chain or pieces[1] not in MARK_KINDS:
            return False
        if self.marks and self.marks[-1][0] == len(self.words):
            return False
        self.marks.append((len(self.words), pieces[1], chain))
        return True

    def takes_function(self, pieces):
        """Take the pieces of the line of a function."""
        if len(pieces) != 4 or not is_name(pieces[1]):
            return False
        params = read_between(pieces[2], 0, MOST_PARAMS)
        frame = read_between(pieces[3], LEAST_FRAME, GREATEST_FRAME)
        if params is None or frame is None or frame & 3 != 0:
            return False
        self.functions.append((pieces[1], len(self.words), params, frame))
        return True

    def takes_need(self, pieces):
        """Take the pieces of the line of a need."""
        need = read_need(pieces)
        if need is None or need in self.needs:
            return False
        self.needs.append(need)
        return True

    def takes_datum(self, pieces):
        """Take the pieces of the line of a datum."""
        if len(pieces) != 3 or pieces[0] not in ("word", "array") or not is_name(pieces[1]):
            return False
        is_word = pieces[0] == "word"
        number = read_between(pieces[2], LEAST, GREATEST) if is_word else read_between(pieces[2], 1, LONGEST)
        if number is None:
            return False
        self.data.append((pieces[1], 0, number) if is_word else (pieces[1], number, 0))
        return True


def read_between(text, least, greatest):
    """Return the integer that is written as this text, or None if it is none or out of its bounds."""
    number = read_number(text)
    return number if number is not None and least <= number <= greatest else None


def read_need(pieces):
    """Return the need with these pieces of its line, or None."""
    if len(pieces) < 3 or not is_name(pieces[2]):
        return None
    if len(pieces) == 3:
        return (pieces[2], "word", 0) if pieces[1] == "word" else None
    if len(pieces) != 4 or pieces[1] not in ("array", "function"):
        return None
    is_array = pieces[1] == "array"
    count = read_between(pieces[3], 1, LONGEST) if is_array else read_between(pieces[3], 0, MOST_PARAMS)
    return None if count is None else (pieces[2], pieces[1], count)


def read_statement(text):
    """Return the place (function, number) that is written as this text, or None."""
    name, _, digits = text.partition(":")
    number = read_between(digits, 0, GREATEST_STATEMENT)
    return (name, number) if is_name(name) and number is not None else None


def read_place(text):
    """Return the tuple (row, kind, name) for the text of a row with an open place, or None."""
    found = read_open_row(text)
    if found is None:
        return None
    row, label = found
    kind, _, name = label.partition(" ")
    return (row, kind, name) if kind in OPEN_ROWS and row[0] in OPEN_ROWS[kind] and is_name(name) else None
