"""The texts of the lines of journals.

What is read from a line is read only if it is written as journals write it; whether it can stand in
a journal is not looked at here, nor whether codes are written as they are shown.
"""

MOST_DIGITS = 40


def entry_text(entry):
    """The text of the line of an entry."""
    word, table, *rest = entry
    if word == "table":
        columns = ",".join([f"{name}:{kind}" for name, kind in rest[0]])
        return f"table {table} {rest[1]} {columns}"
    told = rest[0] if word == "code" else values_text(rest[1])
    day = rest[1] if word == "code" else rest[0]
    return f"{word} {table} {day} {told}"


def values_text(values):
    """Values as they are written in lines."""
    return ",".join([str(value) if isinstance(value, int) else f"'{value}'" for value in values])


def record_text(table, day, moments, text):
    """The text of the line of a record whose inputs are told by moments."""
    inputs = ",".join([str(moment) for moment in moments]) if moments else "-"
    return f"record {table} {day} {inputs} {text}"


def name_text(name, day, moment, text):
    """The text of the line of a named answer."""
    return f"name {name} {day} {moment} {text}"


def read_entry(text):
    """The entry that the text of a line tells, or None if it tells none."""
    word, *rest = text.split(" ", 3)
    if len(rest) != 3:
        return None
    number = read_number(rest[1])
    if word in ("put", "delete"):
        values = read_values(rest[2])
        return None if values is None else (word, rest[0], number, values)
    if word == "code":
        return (word, rest[0], rest[2], number)
    return (word, rest[0], read_columns(rest[2]), number) if word == "table" else None


def read_columns(text):
    """The list of what should be columns."""
    return [tuple(item.split(":")) for item in text.split(",")]


def read_values(text):
    """A tuple of what should be values, or None."""
    values = [read_value(item) for item in text.split(",")]
    return None if None in values else tuple(values)


def read_value(text):
    """A value, or None."""
    if text[:1] == "'":
        return text[1:-1] if len(text) > 1 and text[-1] == "'" else None
    return read_number(text)


def read_number(text):
    """An integer of at most 40 digits, without leading zeros, perhaps with a minus ahead, but not -0; or None."""
    digits = text[1:] if text[:1] == "-" else text
    if not digits.isdigit() or not digits.isascii() or len(digits) > MOST_DIGITS:
        return None
    return None if digits[0] == "0" and text != "0" else int(text)


def read_record(text):
    """The table, the day, the moments and the code that the text of a line tells of a record; or None."""
    word, *rest = text.split(" ", 4)
    if word != "record" or len(rest) != 4:
        return None
    moments = [] if rest[2] == "-" else [read_number(item) for item in rest[2].split(",")]
    return (rest[0], read_number(rest[1]), moments, rest[3])


def read_name(text):
    """The name, the day, the moment and the question that the text of a line tells of an answer; or None."""
    word, *rest = text.split(" ", 4)
    moment = read_number(rest[2]) if len(rest) == 4 else None
    if word != "name" or moment is None:
        return None
    return (rest[0], read_number(rest[1]), moment, rest[3])
