"""The grammar of codes: each function reads one of its forms.

What is read from is a list of the tokens that are ahead, the next one last. A token that cannot
stand where it stands is left there: so it is known which one it is.
"""

from backfilled.errors import BadText
from backfilled.words import FIXED

SUM_WORDS = ("count", "sum", "least", "greatest")
COMPARISONS = ("=", "<", "<=")
TERM_SIGNS = ("+", "-", "*")
CONDITION_WORDS = ("or", "and")
MOST_DAYS = 30


def refuse():
    """Tells that the next token cannot stand here."""
    raise BadText(None)


def take(ahead, token):
    """Goes on behind the next token, which must be this one."""
    if ahead[-1] != token:
        refuse()
    ahead.pop()


def is_next_name(ahead):
    """Whether the next token is a name."""
    return ahead[-1] not in FIXED and isinstance(ahead[-1], str)


def take_name(ahead):
    """The next token, which must be a name, going on behind it."""
    if ahead[-1] in FIXED or not isinstance(ahead[-1], str):
        refuse()
    return ahead.pop()


def take_days(ahead):
    """The next token, which must be a number of days, going on behind it."""
    if not isinstance(ahead[-1], int) or not 1 <= ahead[-1] <= MOST_DAYS:
        refuse()
    return ahead.pop()


def read_code(ahead):
    """A source and its steps."""
    code = read_source(ahead)
    while ahead[-1] == "|":
        ahead.pop()
        if ahead[-1] not in STEPS:
            refuse()
        word = ahead.pop()
        action = STEPS[word]
        code = action(ahead, word, code)
    return code


def read_source(ahead):
    """A table on a day, its last days, or a code in brackets."""
    if ahead[-1] == "(":
        ahead.pop()
        code = read_code(ahead)
        take(ahead, ")")
        return code
    name = take_name(ahead)
    if ahead[-1] == "-":
        ahead.pop()
        return ("table", name, take_days(ahead))
    if ahead[-1] == "last":
        ahead.pop()
        return ("last", name, take_days(ahead))
    return ("table", name, 0)


def read_where(ahead, word, code):
    """The step of a condition."""
    return (word, code, read_condition(ahead))


def read_with(ahead, word, code):
    """The step of a new column."""
    name = take_name(ahead)
    take(ahead, "=")
    return (word, code, name, read_term(ahead))


def read_keep(ahead, word, code):
    """The step of the columns that are kept."""
    first = take_name(ahead)
    others = read_names(ahead)
    return (word, code, (first, *others))


def read_names(ahead):
    """The names that stand here, perhaps none."""
    names = []
    while is_next_name(ahead):
        names.append(ahead.pop())
    return names


def read_rename(ahead, word, code):
    """The step of the old and the new name of a column."""
    old = take_name(ahead)
    return (word, code, old, take_name(ahead))


def read_second(ahead, word, code):
    """A step with a second code."""
    return (word, code, read_source(ahead))


def read_group(ahead, word, code):
    """The step of the names and the sums of groups."""
    names = tuple(read_names(ahead))
    take(ahead, ":")
    sums = [read_sum(ahead)]
    while ahead[-1] == ",":
        ahead.pop()
        sums.append(read_sum(ahead))
    return (word, code, names, tuple(sums))


def read_sum(ahead):
    """What is told of each group in one column."""
    name = take_name(ahead)
    take(ahead, "=")
    if ahead[-1] not in SUM_WORDS:
        refuse()
    word = ahead.pop()
    if word == "count":
        return (name, word, None)
    return (name, word, take_name(ahead))


STEPS = {
    "where": read_where, "with": read_with, "keep": read_keep, "rename": read_rename, "join": read_second,
    "union": read_second, "minus": read_second, "group": read_group,
}


def read_term(ahead):
    """Parts joined by + and -, of factors joined by *."""
    first = read_factor(ahead)
    return read_chain(ahead, first, TERM_SIGNS, "*", read_factor) if ahead[-1] in TERM_SIGNS else first


def read_condition(ahead):
    """Conditions joined by or, and by and."""
    first = read_single(ahead)
    return read_chain(ahead, first, CONDITION_WORDS, "and", read_single) if ahead[-1] in CONDITION_WORDS else first


def read_chain(ahead, tree, signs, strong, read_part):
    """A part and others that are joined by signs, grouped from the left; one sign binds closer than the others."""
    while ahead[-1] in signs:
        sign = ahead.pop()
        part = read_part(ahead)
        while sign != strong and ahead[-1] == strong:
            ahead.pop()
            part = (strong, part, read_part(ahead))
        tree = (sign, tree, part)
    return tree


def read_single(ahead):
    """A comparison or a condition in brackets, perhaps behind some not."""
    many = 0
    while ahead[-1] == "not":
        ahead.pop()
        many += 1
    if ahead[-1] == "[":
        ahead.pop()
        condition = read_condition(ahead)
        take(ahead, "]")
    else:
        condition = read_comparison(ahead)
    for _ in range(many):
        condition = ("not", condition)
    return condition


def read_comparison(ahead):
    """Two terms and the sign between them."""
    first = read_term(ahead)
    if ahead[-1] not in COMPARISONS:
        refuse()
    sign = ahead.pop()
    return (sign, first, read_term(ahead))


def read_factor(ahead):
    """A number, a text, a column, the day, or a term in brackets."""
    token = ahead[-1]
    if not isinstance(token, str):
        return ahead.pop()
    if token not in FIXED:
        return ("column", ahead.pop())
    if token == "(":
        ahead.pop()
        term = read_term(ahead)
        take(ahead, ")")
        return term
    if token == "-":
        ahead.pop()
        return -take_number(ahead)
    take(ahead, "today")
    return ("today",)


def take_number(ahead):
    """The next token, which must be a number, going on behind it."""
    if not isinstance(ahead[-1], int):
        refuse()
    return ahead.pop()
