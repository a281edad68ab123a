"""Working out terms and conditions, for all rows of a code at once."""

from backfilled.kinds import names_of
from backfilled.trees import inner_first, many_in, take_last


def added(one, other):
    """The sum of two numbers."""
    return one + other


def taken_away(one, other):
    """The difference of two numbers."""
    return one - other


def multiplied(one, other):
    """The product of two numbers."""
    return one * other


def is_equal(one, other):
    """Whether values are equal."""
    return one == other


def is_below(one, other):
    """Whether a value is less than another one."""
    return one < other


def is_up_to(one, other):
    """Whether a value is not greater than another one."""
    return one <= other


def both_hold(one, other):
    """Whether two conditions hold."""
    return one and other


def one_holds(one, other):
    """Whether at least one of two conditions holds."""
    return one or other


ACTIONS = {
    "+": added, "-": taken_away, "*": multiplied, "=": is_equal, "<": is_below, "<=": is_up_to,
    "and": both_hold, "or": one_holds,
}


def worked_out(tree, day, columns, rows):
    """The values of a term, or the truths of a condition, on a day, one for each row of columns."""
    if not rows:
        return []
    names = names_of(columns)
    waiting = []
    for part in inner_first(tree):
        inner = take_last(waiting, many_in(part))
        if inner:
            waiting.append(combined(part[0], inner))
        elif not isinstance(part, int) and part[0] == "column":
            at = names.index(part[1])
            waiting.append([row[at] for row in rows])
        else:
            waiting.append([constant(part, day)] * len(rows))
    return waiting[0]


def combined(word, inner):
    """What comes of the lists of what the inner parts come to."""
    if word == "not":
        return [not truth for truth in inner[0]]
    action = ACTIONS[word]
    return [action(one, other) for one, other in zip(inner[0], inner[1])]


def constant(term, day):
    """The value of a term that is the same for all rows."""
    if isinstance(term, int):
        return term
    if term[0] == "today":
        return day
    return term[1]
