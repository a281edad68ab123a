"""Codes that are written plainly: as they are shown, without brackets, and without spaces within texts.

Nearly all codes are, and they are read quickly: a code falls into its source and its steps, and these
into words. Each function returns a tree, or None for what is not written so, whether or not it is a code.
"""

from backfilled.errors import BadText
from backfilled.grammar import COMPARISONS, MOST_DAYS, SUM_WORDS, read_condition, read_term
from backfilled.lines import read_number
from backfilled.tokens import MOST_LETTERS
from backfilled.values import MOST_SIGNS
from backfilled.words import END, FIXED

# What stands between the factors of conditions and terms.
BETWEEN = {
    "=": True, "<": True, "<=": True, "+": True, "-": True, "*": True, "and": True, "or": True, "not": True,
}


def plain_code(text):
    """The tree of the text of a code."""
    if not text.isascii() or not text.islower():
        return None
    pieces = text.split(" | ")
    code = plain_source(pieces[0])
    for piece in pieces[1:]:
        word, _, rest = piece.partition(" ")
        if code is None or word not in STEPS:
            return None
        action = STEPS[word]
        code = action(word, code, rest)
    return code


def is_plain_name(word):
    """Whether a word of ASCII's signs, none of them an uppercase letter, is a name."""
    return word.isalpha() and len(word) <= MOST_LETTERS and word not in FIXED


def plain_source(text):
    """The tree of a table on a day, or of its last days."""
    words = text.split(" ")
    if not is_plain_name(words[0]):
        return None
    if len(words) == 1:
        return ("table", words[0], 0)
    days = read_number(words[2]) if len(words) == 3 else None
    if days is None or not 1 <= days <= MOST_DAYS or words[1] not in ("-", "last"):
        return None
    return ("table" if words[1] == "-" else "last", words[0], days)


def plain_where(word, code, rest):
    """The tree of the step of a condition."""
    words = rest.split(" ")
    if len(words) == 3 and words[1] in COMPARISONS:
        condition = (words[1], plain_factor(words[0]), plain_factor(words[2]))
        return None if None in condition else (word, code, condition)
    condition = plain_tree(words, read_condition)
    return None if condition is None else (word, code, condition)


def plain_with(word, code, rest):
    """The tree of the step of a new column."""
    name, _, told = rest.partition(" = ")
    term = plain_tree(told.split(" "), read_term)
    return None if term is None or not is_plain_name(name) else (word, code, name, term)


def plain_keep(word, code, rest):
    """The tree of the step of the columns that are kept."""
    names = rest.split(" ")
    return (word, code, tuple(names)) if all([is_plain_name(name) for name in names]) else None


def plain_rename(word, code, rest):
    """The tree of the step of the old and the new name of a column."""
    names = rest.split(" ")
    return (word, code, *names) if len(names) == 2 and all([is_plain_name(name) for name in names]) else None


def plain_second(word, code, rest):
    """The tree of a step with a second code."""
    second = plain_source(rest)
    return None if second is None else (word, code, second)


def plain_group(word, code, rest):
    """The tree of the step of the names and the sums of groups; the first word may have the colon."""
    head, _, told = f"{word} {rest}".partition(": ")
    names = head.split(" ")[1:]
    sums = [plain_sum(item.split(" ")) for item in told.split(", ")]
    if None in sums or not all([is_plain_name(name) for name in names]):
        return None
    return ("group", code, tuple(names), tuple(sums))


def plain_sum(words):
    """What is told of each group in one column."""
    if len(words) < 3 or words[1] != "=" or words[2] not in SUM_WORDS or not is_plain_name(words[0]):
        return None
    if words[2] == "count":
        return (words[0], "count", None) if len(words) == 3 else None
    return (words[0], words[2], words[3]) if len(words) == 4 and is_plain_name(words[3]) else None


STEPS = {
    "where": plain_where, "with": plain_with, "keep": plain_keep, "rename": plain_rename, "join": plain_second,
    "union": plain_second, "minus": plain_second, "group": plain_group, "group:": plain_group,
}


def plain_factor(word):
    """The tree of a number, a text, a column or the day."""
    if word.isalpha():
        if is_plain_name(word):
            return ("column", word)
        return ("today",) if word == "today" else None
    if word[:1] == "'":
        inner = word[1:-1]
        return ("text", inner) if word[-1] == "'" and inner.isalnum() and len(inner) <= MOST_SIGNS else None
    return read_number(word)


def plain_tree(words, read):
    """The tree that a function of the grammar reads of words; the factors among them are trees already."""
    tokens = []
    for word in words:
        token = word if word in BETWEEN else plain_factor(word)
        is_behind_factor = bool(tokens) and not isinstance(tokens[-1], str)
        # Minus is glued to a number if there is nothing ahead that the number could be taken from.
        if token is None or word[:1] == "-" and is_behind_factor != (word == "-"):
            return None
        tokens.append(token)
    ahead = [END, *tokens[::-1]]
    try:
        tree = read(ahead)
    except BadText:
        return None
    return tree if ahead == [END] else None
