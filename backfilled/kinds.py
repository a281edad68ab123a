"""The kinds of columns, terms and conditions."""

from backfilled.trees import inner_first

TRUTH = "truth"
# What signs and words between two parts of one kind make of it.
BETWEEN = {
    "+": "number", "-": "number", "*": "number", "=": "truth", "<": "truth", "<=": "truth", "and": "truth",
    "or": "truth",
}


def names_of(columns):
    """The names of columns, in order."""
    return [name for name, _ in columns]


def kinds_of(columns):
    """A dict from the names of columns to their kinds."""
    return {name: kind for name, kind in columns}


def kind_of(tree, columns):
    """The kind of a term over columns, TRUTH of a condition, or None if it is not valid."""
    kinds = kinds_of(columns)
    waiting = []
    for part in inner_first(tree):
        word = part[0] if isinstance(part, tuple) else "number"
        if word == "column":
            if part[1] not in kinds:
                return None
            waiting.append(kinds[part[1]])
        elif word in BETWEEN:
            second = waiting.pop()
            kind = BETWEEN[word]
            if waiting[-1] != second or kind == "number" and second != kind:
                return None
            waiting[-1] = kind
        elif word != "not":
            waiting.append("text" if word == "text" else "number")
    return waiting[0]
