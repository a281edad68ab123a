"""Entries as logs keep and tell them, and adding them to other logs."""

from backfilled.errors import BackfilledError


def frozen(entry):
    """An entry as it is kept: with a tuple of columns, if it has columns."""
    if entry[0] == "table":
        return ("table", entry[1], tuple(entry[2]), entry[3])
    return entry


def as_told(entry):
    """A kept entry as it is told: with a new list of columns, if it has columns."""
    if entry[0] == "table":
        return ("table", entry[1], list(entry[2]), entry[3])
    return entry


def add_entry(log, entry):
    """Adds an entry to a log, with the errors that this has; returns the moment."""
    word, table, *rest = entry
    if word == "table":
        return log.add_table(table, rest[0], rest[1])
    if word == "put":
        return log.put(table, rest[0], rest[1])
    if word == "delete":
        return log.delete(table, rest[0], rest[1])
    return log.set_code(table, rest[0], rest[1])


def with_entry(log, entry):
    """A copy of a log with a further entry, or None if it cannot be added."""
    grown = log.copy()
    try:
        add_entry(grown, entry)
    except BackfilledError:
        return None
    return grown
