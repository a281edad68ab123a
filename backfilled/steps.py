"""What each step makes of rows.

Each function behind which MAKERS stands takes a part of a code, a day, and a list of pairs
of the columns and the rows of the codes within the part; it returns a list of rows.
Rows come in any order, but each once, since a content is a set.
"""

from backfilled.kinds import kinds_of, names_of
from backfilled.terms import worked_out


def each_once(rows):
    """The rows, each once."""
    return list({row: True for row in rows})


def picked(row, places):
    """The values at some places of a row."""
    return tuple([row[at] for at in places])


def in_order_of(names, columns, rows):
    """Rows of columns, with the values of these names alone, in this order."""
    own = names_of(columns)
    places = [own.index(name) for name in names]
    return [picked(row, places) for row in rows]


def where_rows(part, day, inner):
    """Those for which a condition holds."""
    columns, rows = inner[0]
    truths = worked_out(part[2], day, columns, rows)
    return [row for row, truth in zip(rows, truths) if truth]


def with_rows(part, day, inner):
    """Those with one more value each."""
    columns, rows = inner[0]
    worked = worked_out(part[3], day, columns, rows)
    return [(*row, value) for row, value in zip(rows, worked)]


def keep_rows(part, day, inner):
    """Those of the kept columns."""
    columns, rows = inner[0]
    return each_once(in_order_of(part[2], columns, rows))


def rename_rows(part, day, inner):
    """The same."""
    return inner[0][1]


def join_rows(part, day, inner):
    """Those of both codes that have equal values in all common columns."""
    (first, first_rows), (second, second_rows) = inner
    kinds = kinds_of(first)
    common = [name for name in names_of(second) if name in kinds]
    others = [name for name in names_of(second) if name not in kinds]
    partners = {}
    keys = in_order_of(common, second, second_rows)
    for key, rest in zip(keys, in_order_of(others, second, second_rows)):
        partners.setdefault(key, []).append(rest)
    keys = in_order_of(common, first, first_rows)
    return [(*row, *rest) for key, row in zip(keys, first_rows) for rest in partners.get(key, [])]


def union_rows(part, day, inner):
    """Those of both codes."""
    (first, first_rows), (second, second_rows) = inner
    return each_once(first_rows + in_order_of(names_of(first), second, second_rows))


def minus_rows(part, day, inner):
    """Those that the second code does not have."""
    (first, first_rows), (second, second_rows) = inner
    gone = {row: True for row in in_order_of(names_of(first), second, second_rows)}
    return [row for row in first_rows if row not in gone]


def group_rows(part, day, inner):
    """One for each group."""
    columns, rows = inner[0]
    groups = {}
    for key, row in zip(in_order_of(part[2], columns, rows), rows):
        groups.setdefault(key, []).append(row)
    return [key + sums_of(part[3], columns, members) for key, members in groups.items()]


def sums_of(sums, columns, rows):
    """What sums tell of the rows of a group."""
    names = names_of(columns)
    return tuple([summed(word, column, names, rows) for _, word, column in sums])


def summed(word, column, names, rows):
    """What a sum tells of one column of the rows of a group."""
    if word == "count":
        return len(rows)
    at = names.index(column)
    found = [row[at] for row in rows]
    if word == "sum":
        return sum(found)
    if word == "least":
        return min(found)
    return max(found)


MAKERS = {
    "where": where_rows, "with": with_rows, "keep": keep_rows, "rename": rename_rows,
    "join": join_rows, "union": union_rows, "minus": minus_rows, "group": group_rows,
}


def rows_behind(part, day, inner):
    """The rows that a step makes of the codes within it."""
    action = MAKERS[part[0]]
    return action(part, day, inner)
