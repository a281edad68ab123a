"""The texts of the lines of journals.

What is read from a line need not be right: a line stands in a journal only if what was read from it,
written again, is this very line.
"""

MOST_DIGITS = 40


def entry_text(entry):
    """The text of the line of an entry."""
    word, table, *rest = entry
    if word == "table":
        columns = ",".join([f"{name}:{kind}" for name, kind in rest[0]])
        return f"table {table} {rest[1]} {columns}"
    told = rest[0] if word == "code" else values_text(rest[1])
    day = rest[1] if word == "code" else rest[0]
    return f"{word} {table} {day} {told}"


def values_text(values):
    """Values as they are written in lines."""
    return ",".join([str(value) if isinstance(value, int) else f"'{value}'" for value in values])


def record_text(table, day, moments, text):
    """The text of the line of a record whose inputs are told by moments."""
    inputs = ",".join([str(moment) for moment in moments]) if moments else "-"
    return f"record {table} {day} {inputs} {text}"


def name_text(name, day, moment, text):
    """The text of the line of a named answer."""
    return f"name {name} {day} {moment} {text}"


def read_entry(text):
    """The entry that the text of a line tells, or None if it tells none."""
    word, *rest = text.split(" ", 3)
    if len(rest) != 3:
        return None
    if word == "table":
        return read_table(rest[0], rest[1], rest[2])
    day = read_number(rest[1])
    if word == "code":
        return ("code", rest[0], rest[2], day)
    values = [read_value(item) for item in rest[2].split(",")]
    if word not in ("put", "delete") or None in values:
        return None
    return (word, rest[0], day, tuple(values))


def read_table(name, keys, columns):
    """The entry of a table, or None."""
    found = [tuple(item.split(":")) for item in columns.split(",")]
    if not all([len(column) == 2 for column in found]):
        return None
    return ("table", name, found, read_number(keys))


def read_value(text):
    """A value, or None."""
    if text.startswith("'") and text.endswith("'") and len(text) > 1:
        return text[1:-1]
    return read_number(text)


def read_number(text):
    """A number, or None."""
    digits = text.removeprefix("-")
    if len(digits) > MOST_DIGITS or not digits.isascii() or not digits.isdigit():
        return None
    return int(text)


def read_record(text):
    """The table, the day, the moments and the code that the text of a line tells of a record; or None."""
    word, *rest = text.split(" ", 4)
    if word != "record" or len(rest) != 4:
        return None
    moments = [] if rest[2] == "-" else [read_number(item) for item in rest[2].split(",")]
    return (rest[0], read_number(rest[1]), moments, rest[3])


def read_name(text):
    """The name, the day, the moment and the question that the text of a line tells of an answer; or None."""
    word, *rest = text.split(" ", 4)
    if word != "name" or len(rest) != 4:
        return None
    return (rest[0], read_number(rest[1]), read_number(rest[2]), rest[3])
