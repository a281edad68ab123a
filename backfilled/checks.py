"""Whether codes are valid, the columns that they compute, and the partitions that they need."""

from backfilled.errors import BadCode
from backfilled.shapes import SHAPES
from backfilled.trees import MANY_INNER, codes_inner_first, take_last

MOST_COLUMNS = 10


def columns_of(code, tables):
    """The columns of the result of a tree, for a dict from names of tables to columns."""
    return list(shapes_of(codes_inner_first(code), tables)[-1])


def shapes_of(parts, tables):
    """The columns of all parts of a tree, inner ones first."""
    shapes = []
    waiting = []
    for part in parts:
        many = MANY_INNER.get(part[0], 1)
        inner = [waiting.pop()] if many == 1 else take_last(waiting, many) if many else []
        action = SHAPES[part[0]]
        columns = action(part, inner, tables)
        if columns is None or len(columns) > MOST_COLUMNS:
            raise BadCode(part)
        waiting.append(columns)
        shapes.append(columns)
    return shapes


def needs_of(code, day):
    """The partitions, tuples (table, day), that a tree reads on a day, each once, in order."""
    return [(name, day - back) for name, back in reads_of(codes_inner_first(code)) if back <= day]


def reads_of(parts):
    """The tables that parts of a tree read, and how many days earlier; each pair once, in order."""
    reads = {}
    for part in parts:
        if part[0] == "table":
            reads[(part[1], part[2])] = True
        elif part[0] == "last":
            for back in range(part[2] - 1, -1, -1):
                reads[(part[1], back)] = True
    return list(reads)
