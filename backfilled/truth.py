"""Computing from scratch: what every other way to an answer must agree with."""

from backfilled.errors import BadDay
from backfilled.plans import Plan
from backfilled.scratch import Scratch
from backfilled.values import is_day


def evaluate(code, day, tables, read):
    """The content that a tree computes on a day.

    It is given a dict from the names of tables to their columns, and a function
    that returns the content of a table on a day.
    """
    plan = Plan(code, tables)
    contents = {}
    for table, on in plan.needs_on(day):
        contents[(table, on)] = read(table, on)
    return plan.content_from(day, contents)


def from_scratch(log, table, day, moment=None):
    """The content of a partition."""
    log.columns_at(table, moment)
    if not is_day(day):
        raise BadDay(day)
    scratch = Scratch(log, log.moment_for(moment))
    return scratch.content_of(table, day)


def scratch_answer(log, question, day, moment=None):
    """The content of a question on a day."""
    at = log.moment_for(moment)
    plan = log.question_plan(question, at)
    if not is_day(day):
        raise BadDay(day)
    scratch = Scratch(log, at)
    return scratch.answer(plan, day)
