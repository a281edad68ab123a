"""The tokens of the text of a code.

A token is a word, a sign or a name, as a string, a number, as an integer, or a text, as the tree ("text", text).
The last one is END, or NO_TOKEN, which stands where a character begins no token, or where nothing may stand.
"""

from backfilled.values import is_text
from backfilled.words import DIGITS, END, FIXED, LETTERS, NO_TOKEN

MOST_LETTERS = 8
MOST_DIGITS = 40
MOST_OPEN = 20


def tokens_of(text):
    """The list of the tokens of a text."""
    tokens = spread_tokens(text)
    if NO_TOKEN in tokens:
        tokens = [token for token, _ in placed_tokens(text)]
    if text.count("(") + text.count("[") > MOST_OPEN:
        return within_depth(tokens)
    return tokens


def spread_tokens(text):
    """The tokens of a text, found quickly; NO_TOKEN is among them if it is not plain that all are right."""
    if not text.isascii() or not text.isprintable() or "_" in text:
        return [NO_TOKEN]
    pieces = text.split("'")
    tokens = words_in(pieces[0])
    for at in range(1, len(pieces), 2):
        if at + 1 == len(pieces) or not is_text(pieces[at]):
            return [NO_TOKEN]
        tokens.append(("text", pieces[at]))
        tokens.extend(words_in(pieces[at + 1]))
    tokens.append(END)
    return tokens


def words_in(piece):
    """The tokens of a piece of a text without quotes."""
    spaced = piece.replace("<=", " _ ").replace("|", " | ").replace("(", " ( ").replace(")", " ) ")
    spaced = spaced.replace("[", " [ ").replace("]", " ] ").replace(",", " , ").replace(":", " : ")
    spaced = spaced.replace("=", " = ").replace("<", " < ").replace("+", " + ").replace("-", " - ").replace("*", " * ")
    return [
        word if word in FIXED or len(word) <= MOST_LETTERS and word.isalpha() and word.islower() else token_for(word)
        for word in spaced.split()
    ]


def token_for(word):
    """The name or number that a run of signs is, if it is no word and no sign, or NO_TOKEN."""
    if word.isalpha() and word.islower():
        return word if len(word) <= MOST_LETTERS else NO_TOKEN
    if word == "_":
        return "<="
    if word.isdigit() and len(word) <= MOST_DIGITS and (word == "0" or not word.startswith("0")):
        return int(word)
    return NO_TOKEN


def within_depth(tokens):
    """The tokens, up to the first bracket that would be one too many that are open at once."""
    depth = 0
    for at, token in enumerate(tokens):
        if token in ("(", "["):
            depth += 1
        elif token in (")", "]"):
            depth -= 1
        if depth > MOST_OPEN:
            return tokens[:at] + [NO_TOKEN]
    return tokens


def placed_tokens(text):
    """The list of tuples of the tokens of a text and their indexes."""
    found = []
    at = run_end(text, 0, " ")
    while at < len(text):
        token, behind = token_at(text, at)
        found.append((token, at))
        if token == NO_TOKEN:
            return found
        at = run_end(text, behind, " ")
    found.append((END, len(text)))
    return found


def run_end(text, at, signs):
    """The index behind the run of some signs that begins at an index."""
    return len(text) - len(text[at:].lstrip(signs))


def token_at(text, at):
    """The token that begins at an index, and the index behind it."""
    sign = text[at]
    if sign in LETTERS + DIGITS:
        return run_at(text, at)
    if sign == "'":
        return quoted_at(text, at)
    if text.startswith("<=", at):
        return ("<=", at + 2)
    return (sign if sign in FIXED else NO_TOKEN, at + 1)


def run_at(text, at):
    """The name, word or number that begins at an index, and the index behind it."""
    if at > 0 and text[at - 1] in LETTERS + DIGITS:
        return (NO_TOKEN, at)
    end = run_end(text, at, DIGITS if text[at] in DIGITS else LETTERS)
    run = text[at:end]
    return (run if run in FIXED else token_for(run), end)


def quoted_at(text, at):
    """The text in quotes that begins at an index, and the index behind it."""
    end = text.find("'", at + 1)
    if end < 0 or not is_text(text[at + 1:end]):
        return (NO_TOKEN, at)
    return (("text", text[at + 1:end]), end + 1)
