"""Journals: stores as texts, and stores that are recovered from them."""

from backfilled.errors import InvalidText
from backfilled.lines import entry_text, name_text, record_text
from backfilled.recovery import Recovery

# How neighbouring pieces of a text, of 1, 2, 4, .. signs, become pieces of twice as many, all at once: the number
# of their bits, a mask for every other one of them, and 257 to the power of their signs, modulo 9999991.
JOINS = (
    (8, ((1 << 1024) - 1) // ((1 << 8) + 1), 257),
    (16, ((1 << 1024) - 1) // ((1 << 16) + 1), 66049),
    (32, ((1 << 1024) - 1) // ((1 << 32) + 1), 2474325),
    (64, ((1 << 1024) - 1) // ((1 << 64) + 1), 9715677),
    (128, ((1 << 1024) - 1) // ((1 << 128) + 1), 4523343),
    (256, ((1 << 1024) - 1) // ((1 << 256) + 1), 310234),
    (512, ((1 << 1024) - 1) // ((1 << 512) + 1), 5221372),
)
MOST_JOINED = 128
# The signs behind the text of a line: a space, # and seven digits.
TAIL = 9
# For fewer signs than these, joining does not pay.
FEWEST_JOINED = 24


def check_number(index, text):
    """The check number of the text of the line with an index."""
    length = len(text)
    if not FEWEST_JOINED <= length <= MOST_JOINED or not text.isascii():
        return plain_number(index, text)
    number = int.from_bytes(text.encode(), "big")
    for bits, mask, power in JOINS:
        if bits >= 8 * length:
            break
        number = ((number >> bits) & mask) * power + (number & mask)
    return (index * pow(257, len(text), 9999991) + number) % 9999991


def plain_number(index, text):
    """The check number of the text of the line with an index, sign by sign."""
    number = index
    for sign in text:
        number = (number * 257 + ord(sign)) % 9999991
    return number


def journal(store):
    """The text of a store."""
    if store.kept_journal() is None:
        texts = [entry_text(entry) for entry in store.log.entries()]
        texts = texts + record_texts(store)
        texts = texts + [name_text(name, day, at, plan.text) for name, plan, day, at in store.named()]
        store.keep_journal("".join([whole_line(index, text) + "\n" for index, text in enumerate(texts)]))
    return store.kept_journal()


def recover(text):
    """A new store from the longest beginning of a text that a journal may begin with, and its number of lines."""
    if not isinstance(text, str):
        raise InvalidText(text)
    recovery = Recovery()
    # What stands behind the last line feed is no whole line.
    lines = text.split("\n")[:-1]
    many = 0
    while many < len(lines) and is_next(recovery, many, lines[many]):
        many += 1
    store = recovery.store_now()
    # A journal is read only as it is written, so the lines are the journal of the store.
    store.keep_journal("\n".join([*lines[:many], ""]))
    return (store, many)


def is_next(recovery, index, line):
    """Whether a line has its check number and can stand next, going on behind it if so."""
    text = line[:-TAIL]
    return line == whole_line(index, text) and recovery.takes(text)


def whole_line(index, text):
    """The line of a text, without its line feed."""
    return f"{text} #{check_number(index, text):07d}"


def record_texts(store):
    """The texts of the lines of all records that are written."""
    texts = [text_of_record(store.log, record) for record in store.records()]
    return [text for text in texts if text is not None]


def text_of_record(log, record):
    """The text of the line of a record, or None if it is not written."""
    plan = log.plan_held(record.table, record.day, record.code)
    if plan is None or not record.content.has_shape(plan.shape):
        return None
    past = log.past()
    moments = [past.least_moment((table, day), content) for table, day, content in record.inputs]
    if None in moments:
        return None
    return record_text(record.table, record.day, moments, record.code)
