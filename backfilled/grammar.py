"""The grammar of codes: each function reads one of its forms from a Reader.

Those in STEPS read what stands behind the word of a step, and return what stands
behind the code ahead in its tree.
"""

SUM_WORDS = ("count", "sum", "least", "greatest")
COMPARISONS = ("=", "<", "<=")
MOST_DAYS = 30


def read_code(reader):
    """A source and its steps."""
    code = read_source(reader)
    while reader.skip("|"):
        code = read_step(reader, code)
    return code


def read_source(reader):
    """A table on a day, its last days, or a code in brackets."""
    if reader.ahead() == "(":
        reader.enter("(")
        code = read_code(reader)
        reader.leave(")")
        return code
    name = reader.take("name")
    if reader.skip("-"):
        return ("table", name, reader.take_number(1, MOST_DAYS))
    if reader.skip("last"):
        return ("last", name, reader.take_number(1, MOST_DAYS))
    return ("table", name, 0)


def read_step(reader, code):
    """A step behind the code ahead of it."""
    word = reader.ahead()
    if word not in STEPS:
        reader.refuse()
    action = STEPS[reader.take(word)]
    rest = action(reader)
    return (word, code, *rest)


def read_where(reader):
    """The condition of a step."""
    return [read_condition(reader)]


def read_with(reader):
    """The name and the term of a new column."""
    name = reader.take("name")
    reader.take("=")
    return [name, read_term(reader)]


def read_keep(reader):
    """The names of the columns that are kept."""
    first = reader.take("name")
    others = read_names(reader)
    return [(first, *others)]


def read_names(reader):
    """The names that stand here, perhaps none."""
    names = []
    while reader.ahead() == "name":
        names.append(reader.take("name"))
    return names


def read_rename(reader):
    """The old and the new name of a column."""
    old = reader.take("name")
    return [old, reader.take("name")]


def read_second(reader):
    """The second code of a step."""
    return [read_source(reader)]


def read_group(reader):
    """The names and the sums of groups."""
    names = tuple(read_names(reader))
    reader.take(":")
    sums = [read_sum(reader)]
    while reader.skip(","):
        sums.append(read_sum(reader))
    return [names, tuple(sums)]


def read_sum(reader):
    """What is told of each group in one column."""
    name = reader.take("name")
    reader.take("=")
    word = reader.ahead()
    if word not in SUM_WORDS:
        reader.refuse()
    reader.take(word)
    if word == "count":
        return (name, word, None)
    return (name, word, reader.take("name"))


STEPS = {
    "where": read_where, "with": read_with, "keep": read_keep, "rename": read_rename, "join": read_second,
    "union": read_second, "minus": read_second, "group": read_group,
}


def read_chain(reader, signs, read_part):
    """Parts that are joined by signs of one strength, grouped from the left."""
    tree = read_part(reader)
    while reader.ahead() in signs:
        sign = reader.take(reader.ahead())
        tree = (sign, tree, read_part(reader))
    return tree


def read_condition(reader):
    """Conditions joined by or."""
    return read_chain(reader, ("or",), read_both)


def read_both(reader):
    """Conditions joined by and."""
    return read_chain(reader, ("and",), read_not)


def read_not(reader):
    """A comparison or a condition in brackets, perhaps behind some not."""
    many = 0
    while reader.skip("not"):
        many += 1
    condition = read_single(reader)
    for _ in range(many):
        condition = ("not", condition)
    return condition


def read_single(reader):
    """A comparison or a condition in brackets."""
    if reader.ahead() == "[":
        reader.enter("[")
        condition = read_condition(reader)
        reader.leave("]")
        return condition
    first = read_term(reader)
    sign = reader.ahead()
    if sign not in COMPARISONS:
        reader.refuse()
    reader.take(sign)
    return (sign, first, read_term(reader))


def read_term(reader):
    """Parts joined by + and -."""
    return read_chain(reader, ("+", "-"), read_product)


def read_product(reader):
    """Factors joined by *."""
    return read_chain(reader, ("*",), read_factor)


def read_factor(reader):
    """A number, a text, a column, the day, or a term in brackets."""
    kind = reader.ahead()
    if kind == "(":
        reader.enter("(")
        term = read_term(reader)
        reader.leave(")")
        return term
    if kind == "-":
        reader.take("-")
        return -reader.take("number")
    if kind == "number":
        return reader.take("number")
    if kind == "text":
        return ("text", reader.take("text"))
    if reader.skip("today"):
        return ("today",)
    return ("column", reader.take("name"))
