"""The form of commands: which places stand behind their first words, and what may stand in these."""

from backfilled.lines import read_columns, read_number, read_values
from backfilled.values import is_value

MOST_DIGITS = 4


def word_in(text):
    """A word, or None."""
    return None if " " in text else text


def number_in(text):
    """An integer, or None."""
    return read_number(text)


def many_in_digits(text):
    """A number of at most four digits, or None."""
    return None if text[:1] == "-" or len(text) > MOST_DIGITS else read_number(text)


def columns_in(text):
    """What stands in the place of columns, or None if one of them is empty."""
    return None if " " in text or "" in text.split(",") else read_columns(text)


def values_in(text):
    """The tuple of values, or None."""
    values = read_values(text)
    return values if values is not None and all([is_value(value) for value in values]) else None


def text_in(text):
    """Any text."""
    return text


READERS = {
    "NAME": word_in, "DAY": number_in, "MOMENT": number_in, "KEYS": number_in, "MANY": many_in_digits,
    "COLUMNS": columns_in, "VALUES": values_in, "TEXT": text_in,
}
PLACES = {
    "table": "NAME KEYS COLUMNS", "put": "NAME DAY VALUES", "delete": "NAME DAY VALUES", "code": "NAME DAY TEXT",
    "state": "NAME DAY", "rows": "NAME DAY", "ask": "DAY TEXT", "then": "DAY MOMENT TEXT", "name": "NAME DAY TEXT",
    "again": "NAME", "forget": "NAME", "due": "", "work": "MANY", "count": "", "drop": "", "late": "",
}


def words_of(command):
    """The first word of any value and the list of what stands in its places; None if it has the form of no command."""
    word = command.split(" ", 1)[0] if isinstance(command, str) else None
    if word not in PLACES:
        return None
    places = PLACES[word].split()
    texts = command.split(" ", len(places))
    if len(texts) != len(places) + 1 or texts[0] != word or "" in texts:
        return None
    items = [item_in(place, text) for place, text in zip(places, texts[1:])]
    return None if None in items else (word, items)


def item_in(place, text):
    """What a text is in a place, or None if it cannot stand there."""
    action = READERS[place]
    return action(text)
