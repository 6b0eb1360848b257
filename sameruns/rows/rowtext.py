"""The texts of rows."""

from sameruns.rows.coding import ROWS, fields_of, wrong_entry

# Their last entry stands in front of the one in round brackets.
IN_BRACKETS = ("lw", "sw")
REGISTER_FIELDS = ("rd", "rs1", "rs2")
DIGITS = "0123456789"
MOST_DIGITS = 13


def row_text(row):
    """Return the text of a row of the table."""
    return joined_text(row[0], entry_texts(row))


def open_row_text(row, label):
    """Return the text of a row with a label in the place of its last entry."""
    return joined_text(row[0], [*entry_texts(row)[:-1], label])


def entry_texts(row):
    """Return a list with the text of each entry behind the name of a row."""
    texts = []
    for field, number in zip(fields_of(row[0]), row[1:]):
        texts.append(f"x{number}" if field in REGISTER_FIELDS else str(number))
    return texts


def joined_text(name, texts):
    """Return the text of a row with this name and these texts of its entries."""
    if name in IN_BRACKETS:
        return f"{name} {texts[0]}, {texts[2]}({texts[1]})"
    return name + " " + ", ".join(texts) if texts else name


def read_row(text):
    """Return the row whose text it is, or None."""
    name, texts = parted_text(text)
    row = row_of_texts(name, texts)
    return row if row is not None and row_text(row) == text else None


def read_open_row(text):
    """Return the tuple (row, label) of a text with a label in the place of the last entry, or None.

    The last entry of the row is 0.
    """
    name, texts = parted_text(text)
    row = row_of_texts(name, [*texts[:-1], "0"])
    return (row, texts[-1]) if row is not None and open_row_text(row, texts[-1]) == text else None


def parted_text(text):
    """Return the tuple (name, texts) of what should be the name and the entries of a row."""
    name, _, rest = text.partition(" ")
    if name not in IN_BRACKETS:
        return (name, rest.split(", "))
    front, _, inner = rest.partition("(")
    first, _, last = front.partition(", ")
    return (name, [first, inner[:-1], last])


def row_of_texts(name, texts):
    """Return the row with this name and these texts of its entries, or None if it is not in the table.

    The texts may still be written in another way than those of the row.
    """
    if name not in ROWS:
        return None
    fields = fields_of(name)
    numbers = []
    for field, text in zip(fields, texts):
        number = read_number(text[1:] if field in REGISTER_FIELDS else text)
        if number is None:
            return None
        numbers.append(number)
    row = (name, *numbers)
    return row if wrong_entry(row) is None else None


def read_number(text):
    """Return the integer that is written as this text, without needless digits or signs, or None."""
    digits = text[1:] if text.startswith("-") else text
    # Very long texts are never converted: Python refuses to convert them.
    if not 0 < len(digits) <= MOST_DIGITS or not all([mark in DIGITS for mark in digits]):
        return None
    number = int(text)
    return number if str(number) == text else None
