"""The rules of rewriting.

Each function takes a part of a code and the columns of tables, and returns what the rule makes of
the part, or None if it does not fit there.
"""

from backfilled.checks import columns_of
from backfilled.kinds import names_of
from backfilled.trees import inner_first


def used_names(condition):
    """A dict of the names of the columns that a condition uses."""
    return {part[1]: True for part in inner_first(condition) if not isinstance(part, int) and part[0] == "column"}


def inner_of(part, word, inner):
    """The code ahead of a part, if these are the words of both, otherwise None."""
    return part[1] if part[0] == word and part[1][0] == inner else None


def by_both(part, tables):
    """Of two conditions one."""
    ahead = inner_of(part, "where", "where")
    return None if ahead is None else ("where", ahead[1], ("and", ahead[2], part[2]))


def by_split(part, tables):
    """Of one condition two."""
    if part[0] != "where" or part[2][0] != "and":
        return None
    return ("where", ("where", part[1], part[2][1]), part[2][2])


def by_nots(part, tables):
    """A condition that is turned twice is not turned."""
    if part[0] != "where" or part[2][0] != "not" or part[2][1][0] != "not":
        return None
    return ("where", part[1], part[2][1][1])


def by_union(part, tables):
    """A condition of two codes becomes one of each."""
    ahead = inner_of(part, "where", "union")
    if ahead is None:
        return None
    return ("union", ("where", ahead[1], part[2]), ("where", ahead[2], part[2]))


def by_minus(part, tables):
    """A condition of what is left becomes one of the first code."""
    ahead = inner_of(part, "where", "minus")
    return None if ahead is None else ("minus", ("where", ahead[1], part[2]), ahead[2])


def by_join(part, tables):
    """A condition over columns of the first code becomes one of it."""
    ahead = inner_of(part, "where", "join")
    if ahead is None:
        return None
    known = names_of(columns_of(ahead[1], tables))
    if not all([name in known for name in used_names(part[2])]):
        return None
    return ("join", ("where", ahead[1], part[2]), ahead[2])


def by_with(part, tables):
    """A condition that does not use a new column goes ahead of it."""
    ahead = inner_of(part, "where", "with")
    if ahead is None or ahead[2] in used_names(part[2]):
        return None
    return ("with", ("where", ahead[1], part[2]), ahead[2], ahead[3])


def by_keep(part, tables):
    """A condition goes ahead of the choice of columns."""
    ahead = inner_of(part, "where", "keep")
    return None if ahead is None else ("keep", ("where", ahead[1], part[2]), ahead[2])


def by_keeps(part, tables):
    """Of two choices of columns the last one counts."""
    ahead = inner_of(part, "keep", "keep")
    return None if ahead is None else ("keep", ahead[1], part[2])


def by_unused(part, tables):
    """A new column that is not kept need not be there."""
    ahead = inner_of(part, "keep", "with")
    return None if ahead is None or ahead[2] in part[2] else ("keep", ahead[1], part[2])


def by_once(part, tables):
    """A code united with itself is itself."""
    return part[1] if part[0] == "union" and part[1] == part[2] else None


def by_renames(part, tables):
    """Of two new names of a column the last one counts."""
    ahead = inner_of(part, "rename", "rename")
    if ahead is None or ahead[3] != part[2]:
        return None
    return ahead[1] if ahead[2] == part[3] else ("rename", ahead[1], ahead[2], part[3])


RULES = {
    "both": by_both, "split": by_split, "union": by_union, "minus": by_minus, "join": by_join, "with": by_with,
    "keep": by_keep, "keeps": by_keeps, "unused": by_unused, "once": by_once, "renames": by_renames, "nots": by_nots,
}
# For the words of parts the rules that may fit there, in the order in which steps at one path are told.
RULES_FOR = {
    "where": ("both", "split", "union", "minus", "join", "with", "keep", "nots"), "keep": ("keeps", "unused"),
    "union": ("once",), "rename": ("renames",),
}


def made_by(rule, part, tables):
    """What a rule makes of a part of a code, or None if it does not fit there."""
    action = RULES[rule]
    return action(part, tables)


def fits_in(part, tables):
    """The list of tuples of the rules that fit for a part of a code and what they make of it, in order."""
    made = [(rule, made_by(rule, part, tables)) for rule in RULES_FOR.get(part[0], ())]
    return [(rule, other) for rule, other in made if other is not None]
