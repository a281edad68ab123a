"""Journals: stores as texts, and stores that are recovered from them."""

from backfilled.errors import InvalidText
from backfilled.lines import entry_text, name_text, record_text
from backfilled.recovery import Recovery, plan_held

DIVISOR = 9999991


def check_number(index, text):
    """The check number of the text of the line with an index."""
    number = index
    for sign in text:
        number = (number * 257 + ord(sign)) % DIVISOR
    return number


def journal(store):
    """The text of a store."""
    texts = [entry_text(entry) for entry in store.log.entries()]
    texts = texts + record_texts(store)
    texts = texts + [name_text(name, day, at, plan.text) for name, plan, day, at in store.named()]
    return "".join([whole_line(index, text) + "\n" for index, text in enumerate(texts)])


def recover(text):
    """A new store from the longest beginning of a text that a journal may begin with, and its number of lines."""
    if not isinstance(text, str):
        raise InvalidText(text)
    recovery = Recovery()
    # What stands behind the last line feed is no whole line.
    lines = text.split("\n")[:-1]
    many = 0
    while many < len(lines) and is_next(recovery, many, lines[many]):
        many += 1
    return (recovery.store_now(), many)


def is_next(recovery, index, line):
    """Whether a line has its check number and can stand next, going on behind it if so."""
    text = line.rpartition(" ")[0]
    return whole_line(index, text) == line and recovery.takes(text)


def whole_line(index, text):
    """The line of a text, without its line feed."""
    return f"{text} #{check_number(index, text):07d}"


def record_texts(store):
    """The texts of the lines of all records that are written."""
    texts = [text_of_record(store.log, record) for record in store.records()]
    return [text for text in texts if text is not None]


def text_of_record(log, record):
    """The text of the line of a record, or None if it is not written."""
    plan = plan_held(log, record.table, record.day, record.code)
    if plan is None or not record.content.has_shape(plan.shape):
        return None
    past = log.past()
    moments = [past.least_moment((table, day), content) for table, day, content in record.inputs]
    if None in moments:
        return None
    return record_text(record.table, record.day, moments, record.code)
