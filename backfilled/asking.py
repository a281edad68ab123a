"""What is asked of a log, of any values: the errors that all such questions have."""

from backfilled.errors import BadDay, BadMoment
from backfilled.values import is_day


def asked_moment(log, moment):
    """The moment that any value is, None being none."""
    if moment is None:
        raise BadMoment(moment)
    return log.moment_for(moment)


def asked_part(log, table, day, moment):
    """The moment that any value stands for, if the others are a table of then and a day."""
    log.columns_at(table, moment)
    if not is_day(day):
        raise BadDay(day)
    return log.moment_for(moment)


def asked_question(log, question, day, moment):
    """The plan of any value as a question, and the moment that a value stands for, if the other one is a day."""
    at = log.moment_for(moment)
    plan = log.question_plan(question, at)
    if not is_day(day):
        raise BadDay(day)
    return (plan, at)
