"""Computing the content of a code from those of the partitions that it needs."""

from backfilled.checks import days_read
from backfilled.contents import Content
from backfilled.steps import rows_behind
from backfilled.trees import inner_first, parts_in, take_last


def computed(code, day, shapes, contents):
    """The content that a tree computes on a day.

    It is given the columns of all parts of the tree, and a dict from the partitions
    that it needs to their contents.
    """
    waiting = []
    for part, columns in zip(inner_first(code), shapes):
        inner = take_last(waiting, len(parts_in(part)))
        rows = rows_behind(part, day, inner) if inner else rows_read(part, day, contents)
        waiting.append((columns, rows))
    columns, rows = waiting[0]
    return Content(columns, rows)


def rows_read(part, day, contents):
    """The rows of a table on a day, or of its last days, each with its day ahead."""
    rows = []
    for on in days_read(part, day):
        found = contents[(part[1], on)].rows
        if part[0] == "last":
            found = [(on, *row) for row in found]
        rows.extend(found)
    return rows
