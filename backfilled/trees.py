"""Going through trees without calls within one another: trees may be deep."""

# How many parts a tree has directly within it, if it is not one.
MANY_INNER = {
    "table": 0, "last": 0, "text": 0, "column": 0, "today": 0, "join": 2, "union": 2, "minus": 2, "and": 2,
    "or": 2, "=": 2, "<": 2, "<=": 2, "+": 2, "-": 2, "*": 2,
}


def parts_in(tree):
    """The codes directly within a code; the conditions and terms directly within one of these."""
    return tree[1:1 + many_in(tree)] if isinstance(tree, tuple) else ()


def many_in(tree):
    """How many parts a tree has directly within it."""
    return MANY_INNER.get(tree[0], 1) if isinstance(tree, tuple) else 0


def inner_first(tree):
    """A tree and all parts within it, each behind its own parts, these in order."""
    found = []
    waiting = [tree]
    while waiting:
        part = waiting.pop()
        found.append(part)
        if isinstance(part, tuple):
            waiting.extend(part[1:1 + MANY_INNER.get(part[0], 1)])
    return found[::-1]


def take_last(stack, many):
    """Takes the last items from a stack, and returns them in order."""
    start = len(stack) - many
    taken = stack[start:]
    del stack[start:]
    return taken


def paths_in(tree):
    """The paths of a tree and of all parts within it, in the order of inner_first."""
    found = []
    waiting = [(tree, ())]
    while waiting:
        part, path = waiting.pop()
        found.append(path)
        for at, inner in enumerate(parts_in(part)):
            waiting.append((inner, path + (at,)))
    return found[::-1]
