"""The columns of each step, or that it is not valid.

Each function but the first and the last one takes a part of a code, the list of the columns
of the codes within it, and the columns of tables; it returns a list of columns or None.
"""

from backfilled.kinds import kind_of, kinds_of, names_of

DAY_COLUMN = ("day", "number")


def are_different(names):
    """Whether no name stands twice."""
    return len(set(names)) == len(names)


def table_shape(part, inner, tables):
    """Those of a table on a day."""
    if part[1] not in tables:
        return None
    return list(tables[part[1]])


def last_shape(part, inner, tables):
    """Those of the last days of a table."""
    if part[1] not in tables or "day" in names_of(tables[part[1]]):
        return None
    return [DAY_COLUMN] + list(tables[part[1]])


def where_shape(part, inner, tables):
    """Those of the rows for which a condition holds."""
    if kind_of(part[2], inner[0]) is None:
        return None
    return inner[0]


def with_shape(part, inner, tables):
    """Those with one more."""
    kind = kind_of(part[3], inner[0])
    if kind is None or part[2] in names_of(inner[0]):
        return None
    return inner[0] + [(part[2], kind)]


def keep_shape(part, inner, tables):
    """Those that are kept."""
    kinds = kinds_of(inner[0])
    if not are_different(part[2]) or not all([name in kinds for name in part[2]]):
        return None
    return [(name, kinds[name]) for name in part[2]]


def rename_shape(part, inner, tables):
    """Those with one renamed."""
    names = names_of(inner[0])
    if part[2] not in names or part[3] in names:
        return None
    return [(part[3] if name == part[2] else name, kind) for name, kind in inner[0]]


def join_shape(part, inner, tables):
    """Those of both codes."""
    first, second = inner
    kinds = kinds_of(first)
    common = [(name, kind) for name, kind in second if name in kinds]
    if not common or not all([kinds[name] == kind for name, kind in common]):
        return None
    return first + [(name, kind) for name, kind in second if name not in kinds]


def same_shape(part, inner, tables):
    """Those of the first code, which the second one must have, too."""
    first, second = inner
    if sorted(first) != sorted(second):
        return None
    return first


def group_shape(part, inner, tables):
    """Those of the groups and their sums."""
    kinds = kinds_of(inner[0])
    found = {name: kinds.get(name) for name in part[2]}
    for name, word, column in part[3]:
        found[name] = sum_kind(word, column, kinds)
    if len(found) != len(part[2]) + len(part[3]) or None in list(found.values()):
        return None
    return list(found.items())


def sum_kind(word, column, kinds):
    """The kind of a sum, or None if it is not valid."""
    if word == "count":
        return "number"
    if word == "sum" and kinds.get(column) != "number":
        return None
    return kinds.get(column)


SHAPES = {
    "table": table_shape, "last": last_shape, "where": where_shape, "with": with_shape,
    "keep": keep_shape, "rename": rename_shape, "join": join_shape, "union": same_shape,
    "minus": same_shape, "group": group_shape,
}
