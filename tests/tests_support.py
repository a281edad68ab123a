"""What several tests share: random codes, and another way to write and to judge texts."""

import random
import re

WORDS = (
    "last where with keep rename join union minus group count sum least greatest and or not today"
).split()
SIGNS = "| ( ) [ ] , : = < <= + - *".split()
NAMES = ["a", "b", "shop", "day", "amount", "zzzzzzzz"]


class Odd:
    """A value of no kind that the program knows."""


ODD_VALUES = [None, True, False, 1.5, b"a", [], {}, (), Odd(), ["a"], ("a",), {"a": 1}, int, len]


def fields_of(test, error, call, *values, **named):
    """The fields of the error that a call raises."""
    with test.assertRaises(error) as caught:
        call(*values, **named)
    test.assertIs(type(caught.exception), error)
    return vars(caught.exception)


class Codes:
    """Random trees, valid or not, from a seed."""

    def __init__(self, seed):
        self.random = random.Random(seed)

    def name(self):
        return self.random.choice(NAMES)

    def term(self, depth):
        pick = self.random.randrange(4 if depth <= 0 else 8)
        if pick == 0:
            return self.random.choice([0, 7, -1, -45, 10 ** 39, 9 * 10 ** 39, -(10 ** 40 - 1)])
        if pick == 1:
            return ("text", self.random.choice(["", "a", " 9 z", "x" * 20]))
        if pick == 2:
            return ("column", self.name())
        if pick == 3:
            return ("today",)
        return (self.random.choice("+-*"), self.term(depth - 1), self.term(depth - 1))

    def condition(self, depth):
        pick = self.random.randrange(2 if depth <= 0 else 6)
        if pick < 2:
            return (self.random.choice(["=", "<", "<="]), self.term(depth - 1), self.term(depth - 1))
        if pick == 2:
            return ("not", self.condition(depth - 1))
        return (self.random.choice(["and", "or"]), self.condition(depth - 1), self.condition(depth - 1))

    def code(self, depth):
        pick = self.random.randrange(2 if depth <= 0 else 10)
        if pick == 0:
            return ("table", self.name(), self.random.choice([0, 0, 1, 30]))
        if pick == 1:
            return ("last", self.name(), self.random.choice([1, 7, 30]))
        ahead = self.code(depth - 1)
        word = ["where", "with", "keep", "rename", "join", "union", "minus", "group"][pick - 2]
        if word == "where":
            return (word, ahead, self.condition(3))
        if word == "with":
            return (word, ahead, self.name(), self.term(3))
        if word == "keep":
            return (word, ahead, tuple(self.name() for _ in range(self.random.randrange(1, 4))))
        if word == "rename":
            return (word, ahead, self.name(), self.name())
        if word == "group":
            names = tuple(self.name() for _ in range(self.random.randrange(3)))
            return (word, ahead, names, tuple(self.told() for _ in range(self.random.randrange(1, 4))))
        return (word, ahead, self.code(depth - 2))

    def told(self):
        word = self.random.choice(["count", "sum", "least", "greatest"])
        return (self.name(), word, None if word == "count" else self.name())


def loose(tree, chance, top=True):
    """A text of a tree with brackets round every inner part, and spaces as a chance has it."""
    def spaces(least=0):
        return " " * chance.choice([least, least, 1, 3])

    def inner(part, brackets):
        return brackets[0] + spaces() + loose(part, chance, False) + spaces() + brackets[1]

    if isinstance(tree, int):
        return str(tree) if tree >= 0 else "-" + spaces() + str(-tree)
    word = tree[0]
    if word == "table":
        return tree[1] if tree[2] == 0 else tree[1] + spaces() + "-" + spaces() + str(tree[2])
    if word == "last":
        return tree[1] + spaces(1) + "last" + spaces(1) + str(tree[2])
    if word == "text":
        return "'" + tree[1] + "'"
    if word == "column":
        return tree[1]
    if word == "today":
        return word
    if word in ("=", "<", "<=", "+", "-", "*"):
        return inner(tree[1], "()") + spaces() + word + spaces() + inner(tree[2], "()")
    if word in ("and", "or"):
        return inner(tree[1], "[]") + spaces() + word + spaces() + inner(tree[2], "[]")
    if word == "not":
        return word + spaces() + inner(tree[1], "[]")
    start = inner(tree[1], "()") + spaces() + "|" + spaces() + word + spaces(1)
    if word == "where":
        return start + inner(tree[2], "[]")
    if word == "with":
        return start + tree[2] + spaces() + "=" + spaces() + inner(tree[3], "()")
    if word == "keep":
        return start + (" " + spaces()).join(tree[2])
    if word == "rename":
        return start + tree[2] + spaces(1) + tree[3]
    if word == "group":
        sums = [f"{name}={told} {column or ''}" for name, told, column in tree[3]]
        return start + " ".join(tree[2]) + spaces() + ":" + spaces() + (spaces() + "," + spaces()).join(sums)
    return start + inner(tree[2], "()")


# A second judge of texts: the document's grammar as data, read by a predictive parser.
GRAMMAR = {
    "text": [["code", "end"]],
    "code": [["source", "steps"]],
    "steps": [[], ["|", "step", "steps"]],
    "source": [["name", "days"], ["(", "code", ")"]],
    "days": [[], ["-", "small"], ["last", "small"]],
    "step": [
        ["where", "condition"], ["with", "name", "=", "term"], ["keep", "name", "names"],
        ["rename", "name", "name"], ["join", "source"], ["union", "source"], ["minus", "source"],
        ["group", "names", ":", "sum-", "sums"],
    ],
    "names": [[], ["name", "names"]],
    "sums": [[], [",", "sum-", "sums"]],
    "sum-": [["name", "=", "told"]],
    "told": [["count"], ["sum", "name"], ["least", "name"], ["greatest", "name"]],
    "condition": [["all", "ors"]],
    "ors": [[], ["or", "all", "ors"]],
    "all": [["single", "ands"]],
    "ands": [[], ["and", "single", "ands"]],
    "single": [["not", "single"], ["[", "condition", "]"], ["term", "sign", "term"]],
    "sign": [["="], ["<"], ["<="]],
    "term": [["product", "parts"]],
    "parts": [[], ["+", "product", "parts"], ["-", "product", "parts"]],
    "product": [["factor", "factors"]],
    "factors": [[], ["*", "factor", "factors"]],
    "factor": [["small"], ["big"], ["-", "number"], ["quoted"], ["name"], ["today"], ["(", "term", ")"]],
    "number": [["small"], ["big"]],
}
TOKEN = re.compile(r" *(?:([a-z]+)|([0-9]+)|('[a-z0-9 ]{0,20}')|(<=|[|()\[\],:=<+*-])|\Z)")


def first_of(symbol):
    """The kinds of tokens with which a symbol may begin; None if it may be nothing."""
    if symbol not in GRAMMAR:
        return {symbol}
    found = set()
    for way in GRAMMAR[symbol]:
        found |= first_of(way[0]) if way else {None}
    return found


def judged_tokens(text):
    """Pairs of a kind and an index, up to the end or to what begins no token."""
    at = 0
    glued = False
    while True:
        found = TOKEN.match(text, at)
        start = len(text) - len(text[at:].lstrip(" "))
        if not found:
            yield ("wrong", start)
            return
        word, digits, quoted, sign = found.groups()
        run = word or digits
        if run is None and quoted is None and sign is None:
            yield ("end", len(text))
            return
        wrong = run and (glued and start == at)
        wrong = wrong or word and word not in WORDS and len(word) > 8
        wrong = wrong or digits and (len(digits) > 40 or digits[0] == "0" and len(digits) > 1)
        if wrong:
            yield ("wrong", start)
            return
        if word:
            yield (word if word in WORDS else "name", start)
        elif digits:
            yield ("small" if 1 <= int(digits) <= 30 else "big", start)
        else:
            yield ("quoted" if quoted else sign, start)
        glued = bool(run)
        at = found.end()


def fault_in(text):
    """The index of the first fault in a text by the second judge, or None if there is none."""
    goals = ["text"]
    brackets = 0
    for kind, at in judged_tokens(text):
        while goals and goals[-1] in GRAMMAR:
            goal = goals.pop()
            ways = [way for way in GRAMMAR[goal] if way and kind in first_of(way[0])]
            if ways:
                goals.extend(reversed(ways[0]))
            elif [] not in GRAMMAR[goal]:
                return at
        if not goals or goals.pop() != kind:
            return at
        brackets += (kind in "([") - (kind in ")]")
        if brackets > 20:
            return at
    return None


class Invalid(Exception):
    """What the naive judge of codes raises, with the first part that is not valid."""


def naive_kind(tree, kinds):
    """The kind of a term or a condition, or None if it is not valid."""
    if isinstance(tree, int):
        return "number"
    word, *parts = tree
    if word in ("text", "today"):
        return "text" if parts else "number"
    if word == "column":
        return kinds.get(parts[0])
    inner = [naive_kind(part, kinds) for part in parts]
    if None in inner:
        return None
    if word in ("+", "-", "*"):
        return "number" if set(inner) == {"number"} else None
    if word in ("=", "<", "<="):
        return "truth" if len(set(inner)) == 1 else None
    return "truth"


def naive_columns(code, tables):
    """The columns of a code as a dict, which keeps their order."""
    word = code[0]
    if word in ("table", "last"):
        columns = tables.get(code[1])
        if columns is None or word == "last" and "day" in dict(columns):
            raise Invalid(code)
        found = dict(columns) if word == "table" else {"day": "number", **dict(columns)}
    else:
        found = naive_step(code, naive_columns(code[1], tables), tables)
    if found is None or len(found) > 10:
        raise Invalid(code)
    return found


def naive_step(code, kinds, tables):
    word = code[0]
    if word == "where":
        return kinds if naive_kind(code[2], kinds) else None
    if word == "with":
        kind = naive_kind(code[3], kinds)
        return None if code[2] in kinds or not kind else {**kinds, code[2]: kind}
    if word == "keep":
        good = len(set(code[2])) == len(code[2]) and set(code[2]) <= set(kinds)
        return {name: kinds[name] for name in code[2]} if good else None
    if word == "rename":
        good = code[2] in kinds and code[3] not in kinds
        return {code[3] if name == code[2] else name: kind for name, kind in kinds.items()} if good else None
    if word == "group":
        names = [*code[2], *[name for name, _, _ in code[3]]]
        good = len(set(names)) == len(names) and set(code[2]) <= set(kinds)
        for _, told, column in code[3]:
            good = good and (told == "count" or column in kinds and (told != "sum" or kinds[column] == "number"))
        sums = {name: "number" if told == "count" else kinds.get(column) for name, told, column in code[3]}
        return {**{name: kinds[name] for name in code[2]}, **sums} if good else None
    other = naive_columns(code[2], tables)
    if word == "join":
        common = set(kinds) & set(other)
        return {**kinds, **other} if common and all(kinds[name] == other[name] for name in common) else None
    return kinds if kinds == other else None


def naive_value(tree, row, day):
    """What a term or a condition comes to for a row, a dict."""
    if isinstance(tree, int):
        return tree
    word, *parts = tree
    if word == "text":
        return parts[0]
    if word == "column":
        return row[parts[0]]
    if word == "today":
        return day
    inner = [naive_value(part, row, day) for part in parts]
    return {
        "+": lambda a, b: a + b, "-": lambda a, b: a - b, "*": lambda a, b: a * b, "=": lambda a, b: a == b,
        "<": lambda a, b: a < b, "<=": lambda a, b: a <= b, "and": lambda a, b: a and b, "or": lambda a, b: a or b,
        "not": lambda a: not a,
    }[word](*inner)


def naive_rows(code, day, read):
    """The rows that a code computes, as a list of different dicts."""
    word = code[0]
    if word == "table":
        rows = read(code[1], day - code[2]) if day >= code[2] else []
    elif word == "last":
        days = [on for on in range(day - code[2] + 1, day + 1) if on >= 0]
        rows = [{"day": on, **row} for on in days for row in read(code[1], on)]
    else:
        ahead = naive_rows(code[1], day, read)
        rows = naive_made(code, day, ahead, read)
    different = []
    seen = set()
    for row in rows:
        if frozenset(row.items()) not in seen:
            seen.add(frozenset(row.items()))
            different.append(row)
    return different


def naive_made(code, day, ahead, read):
    word = code[0]
    if word == "where":
        return [row for row in ahead if naive_value(code[2], row, day)]
    if word == "with":
        return [{**row, code[2]: naive_value(code[3], row, day)} for row in ahead]
    if word == "keep":
        return [{name: row[name] for name in code[2]} for row in ahead]
    if word == "rename":
        return [{code[3] if name == code[2] else name: worth for name, worth in row.items()} for row in ahead]
    if word == "group":
        found = []
        for first in ahead:
            group = [row for row in ahead if all(row[name] == first[name] for name in code[2])]
            made = {name: first[name] for name in code[2]}
            for name, told, column in code[3]:
                tell = {"count": len, "sum": sum, "least": min, "greatest": max}[told]
                made[name] = tell([row.get(column) for row in group])
            found.append(made)
        return found
    other = naive_rows(code[2], day, read)
    if word == "join":
        return [{**row, **more} for row in ahead for more in other
                if all(row[name] == more[name] for name in row if name in more)]
    if word == "union":
        return ahead + other
    return [row for row in ahead if row not in other]


class ValidCodes(Codes):
    """Random codes that are valid for tables, from a seed."""

    def __init__(self, seed, tables):
        super().__init__(seed)
        self.tables = tables

    def term_of(self, kind, kinds, depth):
        names = [name for name in kinds if kinds[name] == kind]
        if names and self.random.random() < 0.5:
            return ("column", self.random.choice(names))
        if kind == "text":
            return ("text", self.random.choice(["", "a", "b", "east"]))
        if depth <= 0 or self.random.random() < 0.5:
            return self.random.choice([0, 1, 2, -3, 10 ** 12, ("today",)])
        return (self.random.choice("+-*"), self.term_of(kind, kinds, depth - 1), self.term_of(kind, kinds, depth - 1))

    def condition_of(self, kinds, depth):
        pick = self.random.randrange(3 if depth <= 0 else 7)
        if pick < 3:
            kind = self.random.choice(["text", "number"])
            return (["=", "<", "<="][pick], self.term_of(kind, kinds, 2), self.term_of(kind, kinds, 2))
        if pick == 3:
            return ("not", self.condition_of(kinds, depth - 1))
        return (self.random.choice(["and", "or"]), self.condition_of(kinds, depth - 1), self.condition_of(kinds, depth - 1))

    def new_name(self, kinds):
        return self.random.choice([name for name in ["k", "l", "m", "n", "o", *NAMES] if name not in kinds])

    def source_of(self):
        name = self.random.choice(list(self.tables))
        room = "day" not in dict(self.tables[name]) and len(self.tables[name]) < 10
        if room and self.random.random() < 0.3:
            return ("last", name, self.random.choice([1, 2, 4, 30]))
        return ("table", name, self.random.choice([0, 0, 1, 2, 30]))

    def code_of(self, steps):
        code = self.source_of()
        for _ in range(steps):
            for _ in range(50):
                longer = self.step_of(code, naive_columns(code, self.tables), steps)
                try:
                    naive_columns(longer, self.tables)
                except Invalid:
                    continue
                code = longer
                break
        return code

    def step_of(self, code, kinds, steps):
        names = list(kinds)
        some = self.random.sample(names, self.random.randrange(1, len(names) + 1))
        word = self.random.choice(["where", "with", "keep", "rename", "join", "union", "minus", "group"])
        if word == "where":
            return (word, code, self.condition_of(kinds, 2))
        if word == "with":
            return (word, code, self.new_name(kinds), self.term_of(self.random.choice(["text", "number"]), kinds, 2))
        if word == "keep":
            return (word, code, tuple(some))
        if word == "rename":
            return (word, code, some[0], self.new_name(kinds))
        if word == "group":
            told = {}
            for _ in range(self.random.randrange(1, 4)):
                sums = self.random.choice(["count", "sum", "least", "greatest"])
                told[self.name()] = (sums, None if sums == "count" else self.random.choice(names))
            return (word, code, tuple(some[1:]), tuple((name, *more) for name, more in told.items()))
        if self.random.random() < 0.4:
            second = self.shuffled(code, kinds)
        else:
            second = self.code_of(self.random.randrange(steps))
        return (word, code, second)

    def shuffled(self, code, kinds):
        """The rows of a code for which a condition holds, with its columns in another order."""
        names = list(kinds)
        self.random.shuffle(names)
        return ("keep", ("where", code, self.condition_of(kinds, 1)), tuple(names))
