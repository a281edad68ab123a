"""Codes as texts and as trees."""

from backfilled.errors import BadText
from backfilled.grammar import read_code, take
from backfilled.plain import plain_code
from backfilled.tokens import placed_tokens, tokens_of
from backfilled.words import END

MOST_SIGNS = 600
STRENGTHS = {"or": 1, "and": 2, "+": 1, "-": 1, "*": 2}
STRONGEST = 3


def parse(text):
    """The tree of the text of a code."""
    code = read_plainly(text)
    return read_text(text) if code is None else code


def parse_and_show(text):
    """The tree of the text of a code, and what show writes for it."""
    code = read_plainly(text)
    if code is not None:
        return (code, text)
    code = read_text(text)
    return (code, show(code))


def is_shown(text):
    """Whether any value is the text of a code as show writes it."""
    try:
        return parse_and_show(text)[1] == text
    except BadText:
        return False


def read_plainly(text):
    """The tree of any value as the text of a code that is written plainly, or None."""
    if not isinstance(text, str) or len(text) > MOST_SIGNS:
        raise BadText(None)
    return plain_code(text)


def read_text(text):
    """The tree of the text of a code, however it is written."""
    tokens = tokens_of(text)
    ahead = tokens[::-1]
    try:
        code = read_code(ahead)
        take(ahead, END)
    except BadText:
        raise BadText(place_of(text, len(tokens) - len(ahead))) from None
    if most_shown(text, tokens) > MOST_SIGNS and len(show(code)) > MOST_SIGNS:
        raise BadText(None)
    return code


def most_shown(text, tokens):
    """How many signs the code of a text has at most when it is shown: with all its tokens, and spaces between them."""
    if len(text) + len(tokens) <= MOST_SIGNS:
        return MOST_SIGNS
    quoted = sum([token[1].count(" ") for token in tokens if isinstance(token, tuple)])
    # There is no space behind or ahead of these.
    glued = sum([text.count(sign) for sign in "()[],:"])
    return len(text) - text.count(" ") + quoted + len(tokens) - 2 - glued


def place_of(text, number):
    """The index of a token of a text, given by its number."""
    return placed_tokens(text)[number][1]


def show(code):
    """The text of a tree."""
    # The last tokens are found first.
    tokens = []
    waiting = [code]
    while waiting:
        piece = waiting.pop()
        if isinstance(piece, str):
            tokens.append(piece)
        elif isinstance(piece, int):
            tokens.append(str(piece))
        else:
            action = PIECES[piece[0]]
            waiting.extend(action(piece))
    text = " ".join(tokens[::-1]).replace("( ", "(").replace("[ ", "[")
    return text.replace(" )", ")").replace(" ]", "]").replace(" ,", ",").replace(" :", ":")


def chain_pieces(tree):
    """The pieces of parts that are joined by a sign."""
    strength = STRENGTHS[tree[0]]
    # The tree is grouped from the left, so an equally strong part on the right needs brackets.
    return guarded(tree[1], strength) + [tree[0]] + guarded(tree[2], strength + 1)


def guarded(part, least):
    """The pieces of a part of a term or a condition, in brackets if it is weaker than the least strength."""
    if isinstance(part, int) or STRENGTHS.get(part[0], STRONGEST) >= least:
        return [part]
    if part[0] in ("and", "or"):
        return ["[", part, "]"]
    return ["(", part, ")"]


def source_pieces(code):
    """The pieces of a second code."""
    if code[0] in ("table", "last"):
        return [code]
    return ["(", code, ")"]


def table_pieces(code):
    """The pieces of a table on a day."""
    if code[2] == 0:
        return [code[1]]
    return [code[1], "-", str(code[2])]


def last_pieces(code):
    """The pieces of the last days of a table."""
    return [code[1], "last", str(code[2])]


def step_pieces(code):
    """The pieces of a step that is written as its word and what follows in the tree."""
    return [code[1], "|", code[0], *code[2:]]


def with_pieces(code):
    """The pieces of a step that adds a column."""
    return [code[1], "|", "with", code[2], "=", code[3]]


def keep_pieces(code):
    """The pieces of a step that keeps columns."""
    return [code[1], "|", "keep", *code[2]]


def second_pieces(code):
    """The pieces of a step with a second code."""
    return [code[1], "|", code[0]] + source_pieces(code[2])


def group_pieces(code):
    """The pieces of a step that makes groups."""
    pieces = [code[1], "|", "group", *code[2], ":"]
    for at, (name, word, column) in enumerate(code[3]):
        if at > 0:
            pieces.append(",")
        pieces.extend([name, "=", word])
        if column is not None:
            pieces.append(column)
    return pieces


def not_pieces(condition):
    """The pieces of a condition that is turned."""
    return ["not"] + guarded(condition[1], STRONGEST)


def comparison_pieces(condition):
    """The pieces of a comparison."""
    return [condition[1], condition[0], condition[2]]


def text_pieces(term):
    """The pieces of a text."""
    return [f"'{term[1]}'"]


def name_pieces(term):
    """The pieces of a column, which is written as its name, and of the day, which is written as its word."""
    return [term[-1]]


PIECES = {
    "table": table_pieces, "last": last_pieces, "where": step_pieces, "with": with_pieces,
    "keep": keep_pieces, "rename": step_pieces, "join": second_pieces, "union": second_pieces,
    "minus": second_pieces, "group": group_pieces, "not": not_pieces, "=": comparison_pieces,
    "<": comparison_pieces, "<=": comparison_pieces, "text": text_pieces, "column": name_pieces,
    "today": name_pieces, "or": chain_pieces, "and": chain_pieces, "+": chain_pieces, "-": chain_pieces,
    "*": chain_pieces,
}
