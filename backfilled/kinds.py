"""The kinds of columns, terms and conditions."""

from backfilled.trees import inner_first

TRUTH = "truth"
COMPARISONS = {"=": True, "<": True, "<=": True}
LEAVES = {"text": "text", "today": "number"}
# What signs and words between two parts of one kind make of it.
BETWEEN = {
    "+": "number", "-": "number", "*": "number", "=": "truth", "<": "truth", "<=": "truth", "and": "truth",
    "or": "truth",
}


def names_of(columns):
    """The names of columns, in order."""
    return [name for name, _ in columns]


def kinds_of(columns):
    """A dict from the names of columns to their kinds."""
    return {name: kind for name, kind in columns}


def kind_of(tree, columns):
    """The kind of a term over columns, TRUTH of a condition, or None if it is not valid."""
    kinds = kinds_of(columns)
    if isinstance(tree, tuple) and tree[0] in COMPARISONS:
        first = leaf_kind(tree[1], kinds)
        if first is not None and first == leaf_kind(tree[2], kinds):
            return TRUTH
    return whole_kind(tree, kinds)


def leaf_kind(term, kinds):
    """The kind of a term over columns of kinds, None if it has parts or is not valid."""
    if not isinstance(term, tuple):
        return "number"
    if term[0] == "column":
        return kinds.get(term[1])
    return LEAVES.get(term[0])


def whole_kind(tree, kinds):
    """What kind_of returns, for columns of kinds."""
    waiting = []
    for part in inner_first(tree):
        word = part[0] if isinstance(part, tuple) else "number"
        if word == "column":
            if part[1] not in kinds:
                return None
            waiting.append(kinds[part[1]])
        elif word in BETWEEN:
            second = waiting.pop()
            kind = BETWEEN[word]
            if waiting[-1] != second or kind == "number" and second != kind:
                return None
            waiting[-1] = kind
        elif word != "not":
            waiting.append("text" if word == "text" else "number")
    return waiting[0]
