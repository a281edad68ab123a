"""Working out terms and conditions, for all rows of a code at once.

A term or a condition is made into a list of orders, tuples of a word and what belongs to it: each
puts a list, of one value for each row, on a stack, or takes lists from there and puts back what
comes of them.
"""

from backfilled.kinds import names_of
from backfilled.trees import inner_first


def sums(ones, others):
    """The sums of numbers."""
    return [one + other for one, other in zip(ones, others)]


def differences(ones, others):
    """The differences of numbers."""
    return [one - other for one, other in zip(ones, others)]


def products(ones, others):
    """The products of numbers."""
    return [one * other for one, other in zip(ones, others)]


def equal(ones, others):
    """Which values are equal."""
    return [one == other for one, other in zip(ones, others)]


def below(ones, others):
    """Which values are less than the other ones."""
    return [one < other for one, other in zip(ones, others)]


def up_to(ones, others):
    """Which values are not greater than the other ones."""
    return [one <= other for one, other in zip(ones, others)]


def both(ones, others):
    """Where two conditions hold."""
    return [one and other for one, other in zip(ones, others)]


def either(ones, others):
    """Where at least one of two conditions holds."""
    return [one or other for one, other in zip(ones, others)]


BETWEEN = {
    "+": sums, "-": differences, "*": products, "=": equal, "<": below, "<=": up_to, "and": both, "or": either,
}


def orders_for(tree, columns):
    """The orders of a term or a condition over columns."""
    names = names_of(columns)
    orders = []
    for part in inner_first(tree):
        if isinstance(part, int):
            orders.append(("value", part))
        elif part[0] == "text":
            orders.append(("value", part[1]))
        elif part[0] == "column":
            orders.append(("column", names.index(part[1])))
        else:
            orders.append((part[0], BETWEEN.get(part[0])))
    return orders


def worked_out(orders, day, rows):
    """The values of a term, or the truths of a condition, on a day, one for each row."""
    stack = []
    for word, worth in orders:
        if word == "column":
            stack.append([row[worth] for row in rows])
        elif word == "value":
            stack.append([worth] * len(rows))
        elif word in BETWEEN:
            others = stack.pop()
            stack[-1] = worth(stack[-1], others)
        elif word == "today":
            stack.append([day] * len(rows))
        else:
            stack[-1] = [not truth for truth in stack[-1]]
    return stack[0]
