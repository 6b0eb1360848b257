"""The division of a text into tokens."""

from sameruns.basics.words import GREATEST

RESERVED = ("break", "continue", "else", "if", "mod", "return", "tell", "use", "while", "word")
DOUBLE_SIGNS = ("<<", ">>", "<=", ">=", "==", "!=", "&&", "||")
SINGLE_SIGNS = "(){}[];,=+-*/&|^~!<>"
SMALL_LETTERS = "abcdefghijklmnopqrstuvwxyz"
DIGITS = "0123456789"
NAME_MARKS = "abcdefghijklmnopqrstuvwxyz0123456789"
RUN_MARKS = "abcdefghijklmnopqrstuvwxyzABCDEFGHIJKLMNOPQRSTUVWXYZ0123456789"
LONGEST_NAME = 8
MOST_DIGITS = 10


def is_name(text):
    """Return True if a text is a name of the language."""
    return (
        0 < len(text) <= LONGEST_NAME
        and text[0] in SMALL_LETTERS
        and all([mark in NAME_MARKS for mark in text])
        and text not in RESERVED
    )


def is_number(text):
    """Return True if a text is a number of the language."""
    # A number of many digits is never converted: Python refuses to convert very long ones.
    return (
        0 < len(text) <= MOST_DIGITS
        and all([mark in DIGITS for mark in text])
        and (text == "0" or text[0] != "0")
        and int(text) <= GREATEST
    )


def piece_at(text, at):
    """Return the token or bad token that begins at an index."""
    end = at
    while end < len(text) and text[end] in RUN_MARKS:
        end += 1
    if end > at:
        return text[at:end]
    if text[at:at + 2] in DOUBLE_SIGNS:
        return text[at:at + 2]
    return text[at]


def kind_of(piece):
    """Return the kind of a token or bad token."""
    if piece in RESERVED:
        return "reserved"
    if is_name(piece):
        return "name"
    if is_number(piece):
        return "number"
    # Every sign of two characters begins with one that is a sign by itself.
    if piece[0] in SINGLE_SIGNS:
        return "sign"
    return "bad"


def tokens(text):
    """Return a list of the tuples (kind, text, line, column) of all tokens, the last one of kind "end"."""
    found = []
    line = 1
    line_start = 0
    at = 0
    while at < len(text):
        if text[at] == "\n":
            at += 1
            line += 1
            line_start = at
        elif text[at] == " ":
            at += 1
        else:
            piece = piece_at(text, at)
            found.append((kind_of(piece), piece, line, at - line_start + 1))
            at += len(piece)
    found.append(("end", "", line, at - line_start + 1))
    return found
