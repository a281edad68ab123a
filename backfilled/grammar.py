"""The grammar of codes: each function reads one of its forms from a Reader."""

SUM_WORDS = ("count", "sum", "least", "greatest")
COMPARISONS = ("=", "<", "<=")
MOST_DAYS = 30


def read_code(reader):
    """A source and its steps."""
    code = read_source(reader)
    while reader.skip("|"):
        code = read_step(reader, code)
    return code


def read_source(reader):
    """A table on a day, its last days, or a code in brackets."""
    if reader.ahead() == "(":
        reader.enter("(")
        code = read_code(reader)
        reader.leave(")")
        return code
    name = reader.take("name")
    if reader.skip("-"):
        return ("table", name, reader.take_number(1, MOST_DAYS))
    if reader.skip("last"):
        return ("last", name, reader.take_number(1, MOST_DAYS))
    return ("table", name, 0)


def read_step(reader, code):
    """A step behind the code ahead of it."""
    word = reader.ahead()
    if word not in STEPS:
        reader.refuse()
    reader.take(word)
    action = STEPS[word]
    return action(reader, code)


def read_where(reader, code):
    """The rest of a step that takes rows out."""
    return ("where", code, read_condition(reader))


def read_with(reader, code):
    """The rest of a step that adds a column."""
    name = reader.take("name")
    reader.take("=")
    return ("with", code, name, read_term(reader))


def read_keep(reader, code):
    """The rest of a step that keeps columns."""
    first = reader.take("name")
    return ("keep", code, (first, *read_names(reader)))


def read_names(reader):
    """The names that stand here, perhaps none."""
    names = []
    while reader.ahead() == "name":
        names.append(reader.take("name"))
    return names


def read_rename(reader, code):
    """The rest of a step that renames a column."""
    old = reader.take("name")
    return ("rename", code, old, reader.take("name"))


def read_join(reader, code):
    """The rest of a step that joins a second code."""
    return ("join", code, read_source(reader))


def read_union(reader, code):
    """The rest of a step that adds the rows of a second code."""
    return ("union", code, read_source(reader))


def read_minus(reader, code):
    """The rest of a step that takes away the rows of a second code."""
    return ("minus", code, read_source(reader))


def read_group(reader, code):
    """The rest of a step that makes one row of each group."""
    names = tuple(read_names(reader))
    reader.take(":")
    sums = [read_sum(reader)]
    while reader.skip(","):
        sums.append(read_sum(reader))
    return ("group", code, names, tuple(sums))


def read_sum(reader):
    """What is told of each group in one column."""
    name = reader.take("name")
    reader.take("=")
    word = reader.ahead()
    if word not in SUM_WORDS:
        reader.refuse()
    reader.take(word)
    if word == "count":
        return (name, word, None)
    return (name, word, reader.take("name"))


STEPS = {
    "where": read_where, "with": read_with, "keep": read_keep, "rename": read_rename, "join": read_join,
    "union": read_union, "minus": read_minus, "group": read_group,
}


def read_chain(reader, signs, read_part):
    """Parts that are joined by signs of one strength, grouped from the left."""
    tree = read_part(reader)
    while reader.ahead() in signs:
        sign = reader.take(reader.ahead())
        tree = (sign, tree, read_part(reader))
    return tree


def read_condition(reader):
    """Conditions joined by or."""
    return read_chain(reader, ("or",), read_both)


def read_both(reader):
    """Conditions joined by and."""
    return read_chain(reader, ("and",), read_not)


def read_not(reader):
    """A comparison or a condition in brackets, perhaps behind some not."""
    many = 0
    while reader.skip("not"):
        many += 1
    condition = read_single(reader)
    for _ in range(many):
        condition = ("not", condition)
    return condition


def read_single(reader):
    """A comparison or a condition in brackets."""
    if reader.ahead() == "[":
        reader.enter("[")
        condition = read_condition(reader)
        reader.leave("]")
        return condition
    first = read_term(reader)
    sign = reader.ahead()
    if sign not in COMPARISONS:
        reader.refuse()
    reader.take(sign)
    return (sign, first, read_term(reader))


def read_term(reader):
    """Parts joined by + and -."""
    return read_chain(reader, ("+", "-"), read_product)


def read_product(reader):
    """Factors joined by *."""
    return read_chain(reader, ("*",), read_factor)


def read_factor(reader):
    """A number, a text, a column, the day, or a term in brackets."""
    kind = reader.ahead()
    if kind == "(":
        reader.enter("(")
        term = read_term(reader)
        reader.leave(")")
        return term
    if kind == "-":
        reader.take("-")
        return -reader.take("number")
    if kind == "number":
        return reader.take("number")
    if kind == "text":
        return ("text", reader.take("text"))
    if reader.skip("today"):
        return ("today",)
    return ("column", reader.take("name"))
