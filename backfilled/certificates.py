"""Certificates: what shows anyone that an answer is right."""

from backfilled.asking import asked_question
from backfilled.uses import needs_first
from backfilled.values import is_day, is_row


def certificate(log, answer):
    """A certificate of an answer that a store of a log gave."""
    plan, at = asked_question(log, answer.question, answer.day, answer.moment)
    return [step_for(log, at, part) for part in needs_first(log, plan.needs_on(answer.day), at)]


def step_for(log, at, part):
    """The step of a partition."""
    table, day = part
    rows = log.past().content_at(part, at).rows
    if log.is_raw(table, at):
        return (table, day, rows)
    return (table, day, log.code_at(table, day, at), rows)


def check_certificate(log, question, day, moment, rows, value):
    """Whether any value is a certificate of any value as the rows of a question on a day at a moment."""
    plan, at = asked_question(log, question, day, moment)
    if not isinstance(value, list):
        return False
    contents = {}
    for step in value:
        if not is_partition(log, at, step):
            return False
        content = content_of_step(log, at, step, contents)
        if content is None or not are_rows(step[-1], content):
            return False
        contents[(step[0], step[1])] = content
    if not all([need in contents for need in plan.needs_on(day)]):
        return False
    return are_rows(rows, plan.content_from(day, contents))


def is_partition(log, at, step):
    """Whether any value is a tuple of as many items as a step has, of a table at a moment and a day."""
    if not isinstance(step, tuple) or len(step) not in (3, 4):
        return False
    if not isinstance(step[0], str) or step[0] not in log.tables(at) or not is_day(step[1]):
        return False
    return len(step) == (3 if log.is_raw(step[0], at) else 4)


def content_of_step(log, at, step, contents):
    """The content that a step should have, given those of the steps ahead; None if these or its text are not right."""
    plan = log.plan_on(step[0], step[1], at)
    if plan is None:
        is_told = len(step) == 3 or step[2] is None
        return log.content_on(step[0], step[1], at) if is_told else None
    if not isinstance(step[2], str) or step[2] != plan.text:
        return None
    if not all([need in contents for need in plan.needs_on(step[1])]):
        return None
    return plan.content_from(step[1], contents)


def are_rows(value, content):
    """Whether any value is the list of the rows of a content."""
    if not isinstance(value, list) or len(value) != len(content):
        return False
    columns = content.columns
    return all([is_row(row, columns) and row == right for row, right in zip(value, content.rows)])
