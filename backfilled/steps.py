"""What the parts of codes make of rows.

Each function of MAKERS takes a part of a code, the columns of the codes within it, and the places of
the contents of the tables that are read, and returns a function that makes the rows of the part: of
a day and, for a table, of the list of contents, each None if the day is ahead of day 0; for a step,
of the rows of the codes within it. Rows come in any order, but each once, since a content is a set.
"""

from backfilled.kinds import kinds_of, names_of
from backfilled.terms import orders_for, worked_out


def each_once(rows):
    """The rows, each once."""
    return rows if len(rows) < 2 else list({row: True for row in rows})


def picking(names, columns):
    """A function that makes, of rows of columns, those of the values of these names alone, in this order."""
    own = names_of(columns)
    places = [own.index(name) for name in names]
    if len(places) == 1:
        return picking_one(places[0])

    def pick_all(rows):
        return [tuple([row[at] for at in places]) for row in rows]
    return pick_all


def picking_one(at):
    """A function that makes, of rows, those of the value at one place alone."""
    def pick_one(rows):
        return [(row[at],) for row in rows]
    return pick_one


def in_order_of(names, columns, rows):
    """Rows of columns, with the values of these names alone, in this order."""
    pick = picking(names, columns)
    return pick(rows)


def table_maker(part, inner, places):
    """For those of a table on a day."""
    at = places[(part[1], part[2])]

    def table_rows(day, contents):
        return [] if contents[at] is None else contents[at].rows
    return table_rows


def last_maker(part, inner, places):
    """For those of the last days of a table, each with its day ahead."""
    spots = [(back, places[(part[1], back)]) for back in range(part[2])]

    def last_rows(day, contents):
        return [(day - ago, *row) for ago, at in spots if ago <= day for row in contents[at].rows]
    return last_rows


def where_maker(part, inner, places):
    """For those for which a condition holds."""
    orders = orders_for(part[2], inner[0])

    def where_rows(day, rows):
        truths = worked_out(orders, day, rows) if rows else []
        return [row for row, truth in zip(rows, truths) if truth]
    return where_rows


def with_maker(part, inner, places):
    """For those with one more value each."""
    orders = orders_for(part[3], inner[0])

    def with_rows(day, rows):
        values = worked_out(orders, day, rows) if rows else []
        return [(*row, value) for row, value in zip(rows, values)]
    return with_rows


def keep_maker(part, inner, places):
    """For those of the kept columns."""
    pick = picking(part[2], inner[0])

    def keep_rows(day, rows):
        return each_once(pick(rows))
    return keep_rows


def rename_maker(part, inner, places):
    """For the same ones."""
    def rename_rows(day, rows):
        return rows
    return rename_rows


def join_maker(part, inner, places):
    """For those of both codes that have equal values in all common columns."""
    first, second = inner
    kinds = kinds_of(first)
    common = [name for name in names_of(second) if name in kinds]
    pick_first = picking(common, first)
    pick_second = picking(common, second)
    pick_others = picking([name for name in names_of(second) if name not in kinds], second)

    def join_rows(day, first_rows, second_rows):
        partners = {}
        for key, rest in zip(pick_second(second_rows), pick_others(second_rows)):
            partners.setdefault(key, []).append(rest)
        keys = pick_first(first_rows)
        return [(*row, *more) for shared, row in zip(keys, first_rows) for more in partners.get(shared, [])]
    return join_rows


def union_maker(part, inner, places):
    """For those of both codes."""
    pick = picking(names_of(inner[0]), inner[1])

    def union_rows(day, first_rows, second_rows):
        return each_once(first_rows + pick(second_rows))
    return union_rows


def minus_maker(part, inner, places):
    """For those that the second code does not have."""
    pick = picking(names_of(inner[0]), inner[1])

    def minus_rows(day, first_rows, second_rows):
        gone = {row: True for row in pick(second_rows)}
        return [row for row in first_rows if row not in gone]
    return minus_rows


def group_maker(part, inner, places):
    """For one for each group."""
    pick = picking(part[2], inner[0])
    sums = sums_over(part[3], inner[0])

    def group_rows(day, rows):
        groups = {}
        for key, row in zip(pick(rows), rows):
            groups.setdefault(key, []).append(row)
        return [group + tuple([summed(word, at, found) for word, at in sums]) for group, found in groups.items()]
    return group_rows


def sums_over(sums, columns):
    """The words of sums over columns, with the places of their columns, None for a count."""
    names = names_of(columns)
    return [(word, None if column is None else names.index(column)) for _, word, column in sums]


def summed(word, at, rows):
    """What a sum tells of the values at one place of the rows of a group."""
    if word == "count":
        return len(rows)
    found = [row[at] for row in rows]
    if word == "sum":
        return sum(found)
    if word == "least":
        return min(found)
    return max(found)


MAKERS = {
    "table": table_maker, "last": last_maker, "where": where_maker, "with": with_maker, "keep": keep_maker,
    "rename": rename_maker, "join": join_maker, "union": union_maker, "minus": minus_maker, "group": group_maker,
}


def maker_for(part, inner, places):
    """The function that makes the rows of a part of a code.

    It is given the columns of the codes within it, and the places of the contents of the tables that are read.
    """
    action = MAKERS[part[0]]
    return action(part, inner, places)
