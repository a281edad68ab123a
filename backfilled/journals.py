"""Journals: stores as texts, and stores that are recovered from them."""

from backfilled.checksums import BLOCK, number_of, numbers_of
from backfilled.errors import InvalidText
from backfilled.lines import entry_text, name_text, record_text
from backfilled.recovery import Recovery

# The signs behind the text of a line: a space, # and seven digits.
TAIL = 9


def check_number(index, text):
    """The check number of the text of the line with an index."""
    return number_of(index, text)


def journal(store):
    """The text of a store."""
    if store.kept_journal() is None:
        texts = [entry_text(entry) for entry in store.log.entries()]
        texts = texts + record_texts(store)
        texts = texts + [name_text(name, day, at, plan.text) for name, plan, day, at in store.named()]
        blocks = [lines_of(start, texts[start:start + BLOCK]) for start in range(0, len(texts), BLOCK)]
        store.keep_journal("".join([f"{line}\n" for block in blocks for line in block]))
    return store.kept_journal()


def recover(text):
    """A new store from the longest beginning of a text that a journal may begin with, and its number of lines."""
    if not isinstance(text, str):
        raise InvalidText(text)
    lines = whole_lines(text)
    store, many = Recovery().store_from(right_texts(lines))
    # A journal is read only as it is written, so the lines are the journal of the store.
    store.keep_journal("\n".join([*lines[:many], ""]))
    return (store, many)


def whole_lines(text):
    """The whole lines of a text, up to the first one with a sign beyond ASCII, which no journal has."""
    # What stands behind the last line feed is no whole line.
    lines = text.split("\n")[:-1]
    if text.isascii():
        return lines
    plain = [line.isascii() for line in lines]
    return lines[:plain.index(False)] if False in plain else lines


def right_texts(lines):
    """The list of the texts of lines, up to the first line that is not its text with its check number behind it."""
    found = []
    for start in range(0, len(lines), BLOCK):
        block = lines[start:start + BLOCK]
        texts = [line[:-TAIL] for line in block]
        wanted = lines_of(start, texts)
        if block != wanted:
            is_right = [line == other for line, other in zip(block, wanted)]
            return found + texts[:is_right.index(False)]
        found.extend(texts)
    return found


def lines_of(start, texts):
    """The list of the lines of a block of texts, the first one with an index."""
    numbers = numbers_of(start, texts)
    return [f"{text} #{str(number).zfill(7)}" for text, number in zip(texts, numbers)]


def record_texts(store):
    """The texts of the lines of all records that are written."""
    texts = [text_of_record(store.log, record) for record in store.records()]
    return [text for text in texts if text is not None]


def text_of_record(log, record):
    """The text of the line of a record, or None if it is not written."""
    plan = log.plan_held(record.table, record.day, record.code)
    if plan is None or not record.content.has_shape(plan.shape):
        return None
    past = log.past()
    moments = [past.least_moment((table, day), content) for table, day, content in record.inputs]
    if None in moments:
        return None
    return record_text(record.table, record.day, moments, record.code)
