"""The reasons for which rows are in the parts of codes.

Each function but the last one takes a scene, a path, the part of the code there and a row of it.
It returns all ways in which the row may come about: tuples of a word and a list of rows, each told
by its table, day, path and itself.
"""

from backfilled.kinds import names_of
from backfilled.steps import in_order_of


def table_ways(scene, path, part, row):
    """The same row of the table on the day that is read."""
    return [("row", [(part[1], scene.day - part[2], (), row)])]


def last_ways(scene, path, part, row):
    """The row without its day, of the table on this day."""
    return [("row", [(part[1], row[0], (), row[1:])])]


def same_ways(scene, path, part, row):
    """The same row in the code ahead."""
    return [("same", [scene.ahead(path, row)])]


def with_ways(scene, path, part, row):
    """The row without its last value in the code ahead."""
    return [("with", [scene.ahead(path, row[:-1])])]


def keep_ways(scene, path, part, row):
    """Any row of the code ahead that becomes this one."""
    return [("from", [scene.ahead(path, source)]) for source in scene.members(path, part[2], row)]


def join_ways(scene, path, part, row):
    """The two rows that it was joined of."""
    first = row[:len(scene.columns_there(path + (0,)))]
    return [("both", [scene.ahead(path, first), other_row(scene, path, row)])]


def union_ways(scene, path, part, row):
    """The row in the code ahead or in the second one, or both."""
    ways = [("one", [scene.ahead(path, row)]), ("other", [other_row(scene, path, row)])]
    return [(word, rows) for word, rows in ways if scene.holds(rows[0][2], rows[0][3])]


def minus_ways(scene, path, part, row):
    """The row in the code ahead."""
    return [("not", [scene.ahead(path, row)])]


def group_ways(scene, path, part, row):
    """All rows of the group, in order."""
    members = scene.members(path, part[2], row[:len(part[2])])
    return [("all", [scene.ahead(path, member) for member in members])]


def other_row(scene, path, row):
    """The row of the second code that has the values of a row, in the order of that one's columns."""
    names = names_of(scene.columns_there(path + (1,)))
    rows = in_order_of(names, scene.columns_there(path), [row])
    return scene.place(path + (1,), rows[0])


WAYS = {
    "table": table_ways, "last": last_ways, "where": same_ways, "rename": same_ways, "with": with_ways,
    "keep": keep_ways, "join": join_ways, "union": union_ways, "minus": minus_ways, "group": group_ways,
}


def ways_of(scene, path, part, row):
    """All ways in which a row of a part of a code may come about."""
    action = WAYS[part[0]]
    return action(scene, path, part, row)
