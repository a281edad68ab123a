"""Going through trees without calls within one another: trees may be deep."""

from backfilled.values import is_integer

# How many parts a tree has directly within it, if it is not one.
MANY_INNER = {
    "table": 0, "last": 0, "text": 0, "column": 0, "today": 0, "join": 2, "union": 2, "minus": 2, "and": 2,
    "or": 2, "=": 2, "<": 2, "<=": 2, "+": 2, "-": 2, "*": 2,
}


def parts_in(tree):
    """The codes directly within a code; the conditions and terms directly within one of these."""
    return tree[1:1 + many_in(tree)] if isinstance(tree, tuple) else ()


def many_in(tree):
    """How many parts a tree has directly within it."""
    return MANY_INNER.get(tree[0], 1) if isinstance(tree, tuple) else 0


def inner_first(tree):
    """A tree and all parts within it, each behind its own parts, these in order."""
    found = []
    waiting = [tree]
    while waiting:
        part = waiting.pop()
        found.append(part)
        if isinstance(part, tuple):
            waiting.extend(part[1:1 + MANY_INNER.get(part[0], 1)])
    return found[::-1]


def codes_inner_first(code):
    """A code and all codes within it, in the order of inner_first."""
    found = []
    waiting = []
    part = code
    while part is not None:
        found.append(part)
        many = MANY_INNER.get(part[0], 1)
        if many == 1:
            part = part[1]
        elif many == 2:
            waiting.append(part[1])
            part = part[2]
        else:
            part = waiting.pop() if waiting else None
    return found[::-1]


def take_last(stack, many):
    """Takes the last items from a stack, and returns them in order."""
    start = len(stack) - many
    taken = stack[start:]
    del stack[start:]
    return taken


def paths_in(tree):
    """The paths of a tree and of all parts within it, in the order of inner_first."""
    found = []
    waiting = [(tree, ())]
    while waiting:
        part, path = waiting.pop()
        found.append(path)
        for at, inner in enumerate(parts_in(part)):
            waiting.append((inner, path + (at,)))
    return found[::-1]


def outer_first(code):
    """The list of tuples of the paths and the parts of a code: a part ahead of its own parts, these in order."""
    found = []
    waiting = [((), code)]
    while waiting:
        path, part = waiting.pop()
        found.append((path, part))
        inner = parts_in(part)
        for at in range(len(inner) - 1, -1, -1):
            waiting.append((path + (at,), inner[at]))
    return found


def is_path(value):
    """Whether any value is a tuple of integers, as paths are."""
    return isinstance(value, tuple) and all([is_integer(step) for step in value])


def parts_on(code, path):
    """The list of the parts of a code from the whole code to that at the end of a path; None if there is none."""
    parts = [code]
    for at in path:
        inner = parts_in(parts[-1])
        if not 0 <= at < len(inner):
            return None
        parts.append(inner[at])
    return parts


def with_part(parts, path, part):
    """The whole code with another part at the end of a path, given its parts from the whole code to this one."""
    for outer, at in zip(parts[:-1][::-1], path[::-1]):
        part = (*outer[:at + 1], part, *outer[at + 2:])
    return part
