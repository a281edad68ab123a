"""What is an integer, a name, a value, a day, columns and a row."""

from backfilled.words import FIXED, LETTERS, TEXT_SIGNS

KINDS = ("number", "text")
MOST_SIGNS = 20


def is_integer(value):
    """Whether any value is an integer: True and False are none."""
    return isinstance(value, int) and value is not True and value is not False


def is_within(value, least, greatest):
    """Whether any value is an integer within bounds."""
    return isinstance(value, int) and value is not True and value is not False and least <= value <= greatest


def is_text(value):
    """Whether any value is a value of the kind text."""
    return isinstance(value, str) and len(value) <= MOST_SIGNS and not value.strip(TEXT_SIGNS)


def is_name(value):
    """Whether any value is a name."""
    return isinstance(value, str) and 1 <= len(value) <= 8 and not value.strip(LETTERS) and value not in FIXED


def is_value(value):
    """Whether any value is a value of a row."""
    return is_integer(value) or is_text(value)


def is_day(value):
    """Whether any value is a day."""
    return isinstance(value, int) and 0 <= value <= 999 and value is not True and value is not False


def is_columns(value):
    """Whether any value is columns."""
    if not isinstance(value, list) or not 1 <= len(value) <= 10:
        return False
    if not all([is_column(item) for item in value]):
        return False
    return len({name for name, _ in value}) == len(value)


def is_column(value):
    """Whether any value is a column."""
    if not isinstance(value, tuple) or len(value) != 2:
        return False
    return is_name(value[0]) and isinstance(value[1], str) and value[1] in KINDS


def is_row(value, columns):
    """Whether any value is a row of columns."""
    if not isinstance(value, tuple) or len(value) != len(columns):
        return False
    for item, (_, kind) in zip(value, columns):
        if kind == "text":
            if not isinstance(item, str) or len(item) > MOST_SIGNS or item.strip(TEXT_SIGNS):
                return False
        elif not isinstance(item, int) or item is True or item is False:
            return False
    return True
