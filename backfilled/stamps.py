"""What is a stamped entry."""

from backfilled.codes import is_shown
from backfilled.values import is_columns, is_day, is_integer, is_name, is_value, is_within

MOST_VALUES = 10


def is_stamped(value):
    """Whether any value is a stamped entry."""
    if not isinstance(value, tuple) or len(value) != 3:
        return False
    clock, site, entry = value
    return is_integer(clock) and clock > 0 and is_name(site) and is_entry(entry)


def is_entry(value):
    """Whether any value is an entry as a log tells it, whether or not it can be added."""
    if not isinstance(value, tuple) or len(value) != 4:
        return False
    word, table, *rest = value
    if not isinstance(word, str) or word not in FORMS or not is_name(table):
        return False
    action = FORMS[word]
    return action(rest[0], rest[1])


def is_table_form(columns, keys):
    """Whether any values are columns and a number of key columns."""
    return is_columns(columns) and is_within(keys, 1, len(columns))


def is_row_form(day, values):
    """Whether any values are a day and a row or a key."""
    if not is_day(day) or not isinstance(values, tuple) or not 1 <= len(values) <= MOST_VALUES:
        return False
    return all([is_value(value) for value in values])


def is_code_form(text, day):
    """Whether any values are the text of a code as it is shown, and a day."""
    return is_shown(text) and is_day(day)


FORMS = {"table": is_table_form, "put": is_row_form, "delete": is_row_form, "code": is_code_form}
