"""The signs and words that texts are made of."""

LETTERS = "abcdefghijklmnopqrstuvwxyz"
DIGITS = "0123456789"
TEXT_SIGNS = "abcdefghijklmnopqrstuvwxyz0123456789 "

# Stand behind the last token of a code, and where a character begins no token.
END = ""
NO_TOKEN = " "

# All tokens of codes but names, numbers and texts; a dict, since nearly every token is looked up in it.
FIXED = {
    "last": True, "where": True, "with": True, "keep": True, "rename": True, "join": True, "union": True,
    "minus": True, "group": True, "count": True, "sum": True, "least": True, "greatest": True, "and": True,
    "or": True, "not": True, "today": True, "|": True, "(": True, ")": True, "[": True, "]": True, ",": True,
    ":": True, "=": True, "<": True, "<=": True, "+": True, "-": True, "*": True, "": True, " ": True,
}
