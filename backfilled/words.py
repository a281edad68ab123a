"""The signs and words that texts are made of."""

LETTERS = "abcdefghijklmnopqrstuvwxyz"
DIGITS = "0123456789"
TEXT_SIGNS = "abcdefghijklmnopqrstuvwxyz0123456789 "

# Dicts, since they are looked into for nearly every token.
WORDS = {
    "last": True, "where": True, "with": True, "keep": True, "rename": True, "join": True, "union": True,
    "minus": True, "group": True, "count": True, "sum": True, "least": True, "greatest": True, "and": True,
    "or": True, "not": True, "today": True,
}
SIGNS = {
    "|": True, "(": True, ")": True, "[": True, "]": True, ",": True, ":": True, "=": True, "<": True,
    "<=": True, "+": True, "-": True, "*": True,
}
