"""The signs and words that texts are made of."""

LETTERS = "abcdefghijklmnopqrstuvwxyz"
DIGITS = "0123456789"
SIGNS = "|()[],:=<+-*"

WORDS = (
    "last", "where", "with", "keep", "rename", "join", "union", "minus", "group", "count",
    "sum", "least", "greatest", "and", "or", "not", "today",
)
