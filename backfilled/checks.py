"""Whether codes are valid, the columns that they compute, and the partitions that they need."""

from backfilled.errors import BadCode
from backfilled.shapes import shape_behind
from backfilled.trees import inner_first, parts_in, take_last

MOST_COLUMNS = 10


def columns_of(code, tables):
    """The columns of the result of a tree, for a dict from names of tables to columns."""
    return list(shapes_of(code, tables)[-1])


def shapes_of(code, tables):
    """The columns of all parts of a tree, inner ones first."""
    shapes = []
    waiting = []
    for part in inner_first(code):
        inner = take_last(waiting, len(parts_in(part)))
        columns = shape_behind(part, inner, tables)
        if columns is None or len(columns) > MOST_COLUMNS:
            raise BadCode(part)
        waiting.append(columns)
        shapes.append(columns)
    return shapes


def needs_of(code, day):
    """The partitions, tuples (table, day), that a tree reads on a day, each once, in order."""
    needs = {}
    for part in inner_first(code):
        for on in days_read(part, day):
            needs[(part[1], on)] = True
    return list(needs)


def days_read(part, day):
    """The days of its table that a part of a code reads itself on a day; the earliest one first."""
    if part[0] == "table" and part[2] <= day:
        return [day - part[2]]
    if part[0] == "last":
        return list(range(max(0, day - part[2] + 1), day + 1))
    return []


def same_day_needs(code):
    """The names of the tables that a tree reads on the very day that it is computed on."""
    names = {}
    for part in inner_first(code):
        if part[0] == "last" or part[0] == "table" and part[2] == 0:
            names[part[1]] = True
    return list(names)
