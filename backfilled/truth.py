"""Computing from scratch: what every other way to an answer must agree with."""

from backfilled.checks import needs_of, shapes_of
from backfilled.codes import parse
from backfilled.computing import computed
from backfilled.errors import BadDay
from backfilled.scratch import Scratch
from backfilled.values import is_day


def evaluate(code, day, tables, read):
    """The content that a tree computes on a day.

    It is given a dict from the names of tables to their columns, and a function
    that returns the content of a table on a day.
    """
    return computed_from(code, day, shapes_of(code, tables), read)


def computed_from(code, day, shapes, read):
    """The content that a tree computes on a day, given the columns of all its parts."""
    contents = {}
    for table, on in needs_of(code, day):
        contents[(table, on)] = read(table, on)
    return computed(code, day, shapes, contents)


def from_scratch(log, table, day, moment=None):
    """The content of a partition."""
    log.columns_at(table, moment)
    if not is_day(day):
        raise BadDay(day)
    scratch = Scratch(log, moment)
    return scratch.content_of(table, day)


def scratch_answer(log, question, day, moment=None):
    """The content of a question on a day."""
    tables = log.tables(moment)
    code = parse(question)
    shapes = shapes_of(code, tables)
    if not is_day(day):
        raise BadDay(day)
    scratch = Scratch(log, moment)
    return computed_from(code, day, shapes, scratch.content_of)
