"""The texts of the lines of journals.

What is read from a line is read only if it is written as journals write it; whether it can stand in
a journal is not looked at here.
"""

from backfilled.values import MOST_SIGNS, is_day
from backfilled.words import TEXT_SIGNS

MOST_DIGITS = 40
# Most numbers have one digit.
ONE_DIGIT = {"0": 0, "1": 1, "2": 2, "3": 3, "4": 4, "5": 5, "6": 6, "7": 7, "8": 8, "9": 9}


def entry_text(entry):
    """The text of the line of an entry."""
    word, table, *rest = entry
    if word == "table":
        columns = ",".join([f"{name}:{kind}" for name, kind in rest[0]])
        return f"table {table} {rest[1]} {columns}"
    told = rest[0] if word == "code" else values_text(rest[1])
    day = rest[1] if word == "code" else rest[0]
    return f"{word} {table} {day} {told}"


def values_text(values):
    """Values as they are written in lines."""
    return ",".join([str(value) if isinstance(value, int) else f"'{value}'" for value in values])


def record_text(table, day, moments, text):
    """The text of the line of a record whose inputs are told by moments."""
    inputs = ",".join([str(moment) for moment in moments]) if moments else "-"
    return f"record {table} {day} {inputs} {text}"


def name_text(name, day, moment, text):
    """The text of the line of a named answer."""
    return f"name {name} {day} {moment} {text}"


def read_columns(text):
    """The list of what should be columns."""
    return [tuple(item.split(":")) for item in text.split(",")]


def read_values(text):
    """A tuple of what should be values, or None."""
    values = [read_value(item) for item in text.split(",")]
    return None if None in values else tuple(values)


def read_value(text):
    """A value, or None."""
    if text[:1] == "'":
        return text[1:-1] if len(text) > 1 and text[-1] == "'" else None
    return read_number(text)


def read_number(text):
    """An integer of at most 40 digits, without leading zeros, perhaps with a minus ahead, but not -0; or None."""
    if text in ONE_DIGIT:
        return ONE_DIGIT[text]
    digits = text[1:] if text[:1] == "-" else text
    if not digits.isdigit() or not digits.isascii() or len(digits) > MOST_DIGITS or digits[0] == "0":
        return None
    return int(text)


def read_small(text):
    """An integer from 0 to 999, as days are; or None."""
    if text in ONE_DIGIT:
        return ONE_DIGIT[text]
    number = read_number(text)
    return number if is_day(number) else None


def read_moments(text):
    """The list of what should be moments, - for none."""
    return [] if text == "-" else [read_number(item) for item in text.split(",")]


def read_row(text, shape):
    """The row of columns that a text tells, or None."""
    items = text.split(",")
    if len(items) != len(shape):
        return None
    row = [read_text(item) if kind == "text" else read_number(item) for item, (_, kind) in zip(items, shape)]
    return None if None in row else tuple(row)


def read_text(text):
    """The value of the kind text that a text in quotes tells, or None."""
    inner = text[1:-1]
    return inner if text == f"'{inner}'" and len(inner) <= MOST_SIGNS and not inner.strip(TEXT_SIGNS) else None
