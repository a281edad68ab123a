"""What commands do to a store, and what is told of it."""

from backfilled.lines import values_text
from backfilled.monitors import Monitor


def all_told(texts):
    """Texts in one, or the sign for none."""
    return " ".join(texts) if texts else "-"


def rows_told(content):
    """The rows of a content."""
    return all_told([values_text(row) for row in content.rows])


def add_table(store, name, keys, columns):
    """Adds a raw table."""
    return str(store.log.add_table(name, columns, keys))


def put_row(store, table, day, row):
    """Puts a row."""
    return str(store.log.put(table, day, row))


def delete_row(store, table, day, key):
    """Deletes a row."""
    return str(store.log.delete(table, day, key))


def set_code(store, table, day, text):
    """Sets a code."""
    return str(store.log.set_code(table, text, day))


def tell_state(store, table, day):
    """Tells a state."""
    return store.state_at(table, day)


def tell_rows(store, table, day):
    """Computes a partition."""
    return rows_told(store.compute(table, day))


def ask(store, day, question):
    """Asks at the last moment."""
    return rows_told(store.ask(question, day).content)


def ask_then(store, day, moment, question):
    """Asks at a moment."""
    return rows_told(store.ask(question, day, moment).content)


def ask_named(store, name, day, question):
    """Asks at the last moment, with a name."""
    return rows_told(store.ask(question, day, None, name).content)


def ask_again(store, name):
    """Gives an answer again."""
    return rows_told(store.again(name).content)


def forget_name(store, name):
    """Takes a name away."""
    store.forget(name)
    return "ok"


def tell_due(store):
    """Tells what is due."""
    return all_told([f"{table}:{day}" for table, day in store.due()])


def compute_due(store, most):
    """Computes what is due, at most so many partitions."""
    many = 0
    while many < most and store.work_once() is not None:
        many += 1
    return str(many)


def tell_made(store):
    """Tells how many records were made."""
    return str(store.made)


def drop_records(store):
    """Drops records."""
    return str(store.drop())


def tell_late(store):
    """Tells the moments of late entries."""
    return all_told([str(moment) for moment in Monitor(store).late()])


ACTIONS = {
    "table": add_table, "put": put_row, "delete": delete_row, "code": set_code, "state": tell_state,
    "rows": tell_rows, "ask": ask, "then": ask_then, "name": ask_named, "again": ask_again,
    "forget": forget_name, "due": tell_due, "work": compute_due, "count": tell_made, "drop": drop_records,
    "late": tell_late,
}


def answer_to(store, word, items):
    """Does a command, given by its first word and what stands in its places, and returns what is told of it."""
    action = ACTIONS[word]
    return action(store, *items)
