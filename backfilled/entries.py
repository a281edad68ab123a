"""Adding entries, as a log tells them, to other logs."""

from backfilled.errors import BackfilledError


def add_entry(log, entry):
    """Adds an entry to a log, with the errors that this has; returns the moment."""
    word, table, *rest = entry
    if word == "table":
        return log.add_table(table, rest[0], rest[1])
    if word == "put":
        return log.put(table, rest[0], rest[1])
    if word == "delete":
        return log.delete(table, rest[0], rest[1])
    return log.set_code(table, rest[0], rest[1])


def with_entry(log, entry):
    """A copy of a log with a further entry, or None if it cannot be added."""
    grown = log.copy()
    try:
        add_entry(grown, entry)
    except BackfilledError:
        return None
    return grown
