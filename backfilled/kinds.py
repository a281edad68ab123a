"""The kinds of columns, terms and conditions."""

from backfilled.trees import inner_first, many_in, take_last

TRUTH = "truth"
SUMMED = ("+", "-", "*")
COMPARED = ("=", "<", "<=")


def names_of(columns):
    """The names of columns, in order."""
    return [name for name, _ in columns]


def kinds_of(columns):
    """A dict from the names of columns to their kinds."""
    return {name: kind for name, kind in columns}


def kind_of(tree, columns):
    """The kind of a term over columns, TRUTH of a condition, or None if it is not valid."""
    kinds = kinds_of(columns)
    waiting = []
    for part in inner_first(tree):
        inner = take_last(waiting, many_in(part))
        waiting.append(None if None in inner else kind_behind(part, inner, kinds))
    return waiting[0]


def kind_behind(part, inner, kinds):
    """The kind of a term or a condition whose inner parts have these kinds."""
    if isinstance(part, int):
        return "number"
    word = part[0]
    if word == "column":
        return kinds.get(part[1])
    if word in SUMMED:
        return "number" if inner == ["number", "number"] else None
    if word in COMPARED:
        return TRUTH if inner[0] == inner[1] else None
    if word == "text":
        return "text"
    if word == "today":
        return "number"
    return TRUTH
