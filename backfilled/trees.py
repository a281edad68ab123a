"""Going through trees without calls within one another: trees may be deep."""

LEAVES = ("table", "last", "text", "column", "today")
DOUBLES = ("join", "union", "minus", "and", "or", "=", "<", "<=", "+", "-", "*")


def parts_in(tree):
    """The codes directly within a code; the conditions and terms directly within one of these."""
    if isinstance(tree, int) or tree[0] in LEAVES:
        return []
    if tree[0] in DOUBLES:
        return [tree[1], tree[2]]
    return [tree[1]]


def inner_first(tree):
    """A tree and all parts within it, each behind its own parts, these in order."""
    found = []
    waiting = [tree]
    while waiting:
        part = waiting.pop()
        found.append(part)
        waiting.extend(parts_in(part))
    return found[::-1]


def take_last(stack, many):
    """Takes the last items from a stack, and returns them in order."""
    start = len(stack) - many
    taken = stack[start:]
    del stack[start:]
    return taken


def paths_in(tree):
    """The paths of a tree and of all parts within it, in the order of inner_first."""
    found = []
    waiting = [(tree, ())]
    while waiting:
        part, path = waiting.pop()
        found.append(path)
        for at, inner in enumerate(parts_in(part)):
            waiting.append((inner, path + (at,)))
    return found[::-1]
