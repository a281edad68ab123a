"""What several tests share: random codes, and another way to write and to judge texts."""

import random
import re

WORDS = (
    "last where with keep rename join union minus group count sum least greatest and or not today"
).split()
SIGNS = "| ( ) [ ] , : = < <= + - *".split()
NAMES = ["a", "b", "shop", "day", "amount", "zzzzzzzz"]


class Odd:
    """A value of no kind that the program knows."""


ODD_VALUES = [None, True, False, 1.5, b"a", [], {}, (), Odd(), ["a"], ("a",), {"a": 1}, int, len]


def fields_of(test, error, call, *values, **named):
    """The fields of the error that a call raises."""
    with test.assertRaises(error) as caught:
        call(*values, **named)
    test.assertIs(type(caught.exception), error)
    return vars(caught.exception)


class Codes:
    """Random trees, valid or not, from a seed."""

    def __init__(self, seed):
        self.random = random.Random(seed)

    def name(self):
        return self.random.choice(NAMES)

    def term(self, depth):
        pick = self.random.randrange(4 if depth <= 0 else 8)
        if pick == 0:
            return self.random.choice([0, 7, -1, -45, 10 ** 39, 9 * 10 ** 39, -(10 ** 40 - 1)])
        if pick == 1:
            return ("text", self.random.choice(["", "a", " 9 z", "x" * 20]))
        if pick == 2:
            return ("column", self.name())
        if pick == 3:
            return ("today",)
        return (self.random.choice("+-*"), self.term(depth - 1), self.term(depth - 1))

    def condition(self, depth):
        pick = self.random.randrange(2 if depth <= 0 else 6)
        if pick < 2:
            return (self.random.choice(["=", "<", "<="]), self.term(depth - 1), self.term(depth - 1))
        if pick == 2:
            return ("not", self.condition(depth - 1))
        return (self.random.choice(["and", "or"]), self.condition(depth - 1), self.condition(depth - 1))

    def code(self, depth):
        pick = self.random.randrange(2 if depth <= 0 else 10)
        if pick == 0:
            return ("table", self.name(), self.random.choice([0, 0, 1, 30]))
        if pick == 1:
            return ("last", self.name(), self.random.choice([1, 7, 30]))
        ahead = self.code(depth - 1)
        word = ["where", "with", "keep", "rename", "join", "union", "minus", "group"][pick - 2]
        if word == "where":
            return (word, ahead, self.condition(3))
        if word == "with":
            return (word, ahead, self.name(), self.term(3))
        if word == "keep":
            return (word, ahead, tuple(self.name() for _ in range(self.random.randrange(1, 4))))
        if word == "rename":
            return (word, ahead, self.name(), self.name())
        if word == "group":
            names = tuple(self.name() for _ in range(self.random.randrange(3)))
            return (word, ahead, names, tuple(self.told() for _ in range(self.random.randrange(1, 4))))
        return (word, ahead, self.code(depth - 2))

    def told(self):
        word = self.random.choice(["count", "sum", "least", "greatest"])
        return (self.name(), word, None if word == "count" else self.name())


def loose(tree, chance, top=True):
    """A text of a tree with brackets round every inner part, and spaces as a chance has it."""
    def spaces(least=0):
        return " " * chance.choice([least, least, 1, 3])

    def inner(part, brackets):
        return brackets[0] + spaces() + loose(part, chance, False) + spaces() + brackets[1]

    if isinstance(tree, int):
        return str(tree) if tree >= 0 else "-" + spaces() + str(-tree)
    word = tree[0]
    if word == "table":
        return tree[1] if tree[2] == 0 else tree[1] + spaces() + "-" + spaces() + str(tree[2])
    if word == "last":
        return tree[1] + spaces(1) + "last" + spaces(1) + str(tree[2])
    if word == "text":
        return "'" + tree[1] + "'"
    if word == "column":
        return tree[1]
    if word == "today":
        return word
    if word in ("=", "<", "<=", "+", "-", "*"):
        return inner(tree[1], "()") + spaces() + word + spaces() + inner(tree[2], "()")
    if word in ("and", "or"):
        return inner(tree[1], "[]") + spaces() + word + spaces() + inner(tree[2], "[]")
    if word == "not":
        return word + spaces() + inner(tree[1], "[]")
    start = inner(tree[1], "()") + spaces() + "|" + spaces() + word + spaces(1)
    if word == "where":
        return start + inner(tree[2], "[]")
    if word == "with":
        return start + tree[2] + spaces() + "=" + spaces() + inner(tree[3], "()")
    if word == "keep":
        return start + (" " + spaces()).join(tree[2])
    if word == "rename":
        return start + tree[2] + spaces(1) + tree[3]
    if word == "group":
        sums = [f"{name}={told} {column or ''}" for name, told, column in tree[3]]
        return start + " ".join(tree[2]) + spaces() + ":" + spaces() + (spaces() + "," + spaces()).join(sums)
    return start + inner(tree[2], "()")


# A second judge of texts: the document's grammar as data, read by a predictive parser.
GRAMMAR = {
    "text": [["code", "end"]],
    "code": [["source", "steps"]],
    "steps": [[], ["|", "step", "steps"]],
    "source": [["name", "days"], ["(", "code", ")"]],
    "days": [[], ["-", "small"], ["last", "small"]],
    "step": [
        ["where", "condition"], ["with", "name", "=", "term"], ["keep", "name", "names"],
        ["rename", "name", "name"], ["join", "source"], ["union", "source"], ["minus", "source"],
        ["group", "names", ":", "sum-", "sums"],
    ],
    "names": [[], ["name", "names"]],
    "sums": [[], [",", "sum-", "sums"]],
    "sum-": [["name", "=", "told"]],
    "told": [["count"], ["sum", "name"], ["least", "name"], ["greatest", "name"]],
    "condition": [["all", "ors"]],
    "ors": [[], ["or", "all", "ors"]],
    "all": [["single", "ands"]],
    "ands": [[], ["and", "single", "ands"]],
    "single": [["not", "single"], ["[", "condition", "]"], ["term", "sign", "term"]],
    "sign": [["="], ["<"], ["<="]],
    "term": [["product", "parts"]],
    "parts": [[], ["+", "product", "parts"], ["-", "product", "parts"]],
    "product": [["factor", "factors"]],
    "factors": [[], ["*", "factor", "factors"]],
    "factor": [["small"], ["big"], ["-", "number"], ["quoted"], ["name"], ["today"], ["(", "term", ")"]],
    "number": [["small"], ["big"]],
}
TOKEN = re.compile(r" *(?:([a-z]+)|([0-9]+)|('[a-z0-9 ]{0,20}')|(<=|[|()\[\],:=<+*-])|\Z)")


def first_of(symbol):
    """The kinds of tokens with which a symbol may begin; None if it may be nothing."""
    if symbol not in GRAMMAR:
        return {symbol}
    found = set()
    for way in GRAMMAR[symbol]:
        found |= first_of(way[0]) if way else {None}
    return found


def judged_tokens(text):
    """Pairs of a kind and an index, up to the end or to what begins no token."""
    at = 0
    glued = False
    while True:
        found = TOKEN.match(text, at)
        start = len(text) - len(text[at:].lstrip(" "))
        if not found:
            yield ("wrong", start)
            return
        word, digits, quoted, sign = found.groups()
        run = word or digits
        if run is None and quoted is None and sign is None:
            yield ("end", len(text))
            return
        wrong = run and (glued and start == at)
        wrong = wrong or word and word not in WORDS and len(word) > 8
        wrong = wrong or digits and (len(digits) > 40 or digits[0] == "0" and len(digits) > 1)
        if wrong:
            yield ("wrong", start)
            return
        if word:
            yield (word if word in WORDS else "name", start)
        elif digits:
            yield ("small" if 1 <= int(digits) <= 30 else "big", start)
        else:
            yield ("quoted" if quoted else sign, start)
        glued = bool(run)
        at = found.end()


def fault_in(text):
    """The index of the first fault in a text by the second judge, or None if there is none."""
    goals = ["text"]
    brackets = 0
    for kind, at in judged_tokens(text):
        while goals and goals[-1] in GRAMMAR:
            goal = goals.pop()
            ways = [way for way in GRAMMAR[goal] if way and kind in first_of(way[0])]
            if ways:
                goals.extend(reversed(ways[0]))
            elif [] not in GRAMMAR[goal]:
                return at
        if not goals or goals.pop() != kind:
            return at
        brackets += (kind in "([") - (kind in ")]")
        if brackets > 20:
            return at
    return None
