"""Computing from scratch: what every other way to an answer must agree with."""

from backfilled.asking import asked_part, asked_question
from backfilled.plans import Plan


def evaluate(code, day, tables, read):
    """The content that a tree computes on a day.

    It is given a dict from the names of tables to their columns, and a function
    that returns the content of a table on a day.
    """
    plan = Plan(code, tables)
    return plan.content_from(day, [read(table, on) for table, on in plan.needs_on(day)])


def from_scratch(log, table, day, moment=None):
    """The content of a partition."""
    at = asked_part(log, table, day, moment)
    return log.past().content_at((table, day), at)


def scratch_answer(log, question, day, moment=None):
    """The content of a question on a day."""
    plan, at = asked_question(log, question, day, moment)
    return log.past().answer_at(plan, day, at)
