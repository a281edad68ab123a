"""The tokens of the text of a code, and reading them one after another."""

from backfilled.errors import BadText
from backfilled.values import is_name, is_text
from backfilled.words import DIGITS, LETTERS, SIGNS, WORDS

NO_TOKEN = "none"
MOST_DIGITS = 40
MOST_OPEN = 20


def tokens_of(text):
    """The tokens, tuples of a kind, a value and an index.

    The kind of a word or a sign is itself. The last token is the end of the text,
    or stands for the first character that begins no token.
    """
    tokens = []
    at = skip_spaces(text, 0)
    while at < len(text):
        kind, value, behind = token_at(text, at)
        tokens.append((kind, value, at))
        if kind == NO_TOKEN:
            return tokens
        at = skip_spaces(text, behind)
    tokens.append(("end", None, len(text)))
    return tokens


def skip_spaces(text, at):
    """The index of the first character from an index on that is no space."""
    return run_end(text, at, " ")


def run_end(text, at, signs):
    """The index behind the run of some signs that begins at an index."""
    return len(text) - len(text[at:].lstrip(signs))


def token_at(text, at):
    """The token that begins at an index: its kind, its value and the index behind it."""
    sign = text[at]
    if sign in LETTERS + DIGITS:
        return run_at(text, at)
    if sign == "'":
        return quoted_at(text, at)
    if text.startswith("<=", at):
        return ("<=", "<=", at + 2)
    if sign in SIGNS:
        return (sign, sign, at + 1)
    return (NO_TOKEN, None, at)


def run_at(text, at):
    """The name, word or number that begins at an index."""
    if at > 0 and text[at - 1] in LETTERS + DIGITS:
        return (NO_TOKEN, None, at)
    if text[at] in DIGITS:
        return number_at(text, at)
    end = run_end(text, at, LETTERS)
    run = text[at:end]
    if run in WORDS:
        return (run, run, end)
    if is_name(run):
        return ("name", run, end)
    return (NO_TOKEN, None, at)


def number_at(text, at):
    """The number that begins at an index."""
    end = run_end(text, at, DIGITS)
    run = text[at:end]
    if len(run) > MOST_DIGITS or run.startswith("0") and run != "0":
        return (NO_TOKEN, None, at)
    return ("number", int(run), end)


def quoted_at(text, at):
    """The text in quotes that begins at an index."""
    end = text.find("'", at + 1)
    if end < 0 or not is_text(text[at + 1:end]):
        return (NO_TOKEN, None, at)
    return ("text", text[at + 1:end], end + 1)


class Reader:
    """The tokens of a text, read one after another."""

    def __init__(self, text):
        self._tokens = tokens_of(text)
        self._next = 0
        self._depth = 0

    def ahead(self):
        """The kind of the next token."""
        return self._tokens[self._next][0]

    def refuse(self):
        """Tells that the next token cannot stand here."""
        raise BadText(self._tokens[self._next][2])

    def take(self, kind):
        """The value of the next token, which must be of a kind, going on behind it."""
        if self.ahead() != kind:
            self.refuse()
        value = self._tokens[self._next][1]
        self._next += 1
        return value

    def take_number(self, least, greatest):
        """The next number, which must be within bounds, going on behind it."""
        kind, value, _ = self._tokens[self._next]
        if kind != "number" or not least <= value <= greatest:
            self.refuse()
        return self.take("number")

    def skip(self, kind):
        """Whether the next token is of a kind, going on behind it if so."""
        found = self.ahead() == kind
        if found:
            self._next += 1
        return found

    def enter(self, bracket):
        """Goes on behind an open bracket."""
        if self._depth == MOST_OPEN:
            self.refuse()
        self.take(bracket)
        self._depth += 1

    def leave(self, bracket):
        """Goes on behind a bracket that closes."""
        self.take(bracket)
        self._depth -= 1
