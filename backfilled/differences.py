"""Differences of contents and answers, and the entries that explain them."""

from backfilled.answers import Answer
from backfilled.asking import asked_moment, asked_question
from backfilled.contents import Content
from backfilled.entries import with_entry
from backfilled.errors import BadCode, BadColumns, BadMoment, LimitExceeded
from backfilled.plans import Plan

MOST_ENTRIES = 8


class Difference:
    """The rows that come and those that go between two contents or answers."""

    def __init__(self, before, after):
        old = content_in(before)
        new = content_in(after)
        if old is None or new is None or old.columns != new.columns:
            raise BadColumns(after)
        self._come = new - old
        self._gone = old - new
        self._all = self._come.rows + self._gone.rows

    @property
    def come(self):
        """The content of the rows that come."""
        return self._come

    @property
    def gone(self):
        """The content of the rows that go."""
        return self._gone

    def __len__(self):
        return len(self._all)

    def __eq__(self, other):
        return isinstance(other, Difference) and self._come == other._come and self._gone == other._gone

    def turned(self):
        """The difference the other way about."""
        return Difference(self._come, self._gone)


def content_in(value):
    """The content that any value is or shows, or None."""
    if isinstance(value, Answer):
        return value.content
    return value if isinstance(value, Content) else None


def explanation(log, question, day, first, last):
    """The moments of as few entries as possible that explain the difference between two moments."""
    check_moments(log, first, last)
    plan, at = asked_question(log, question, day, last)
    if last - first > MOST_ENTRIES:
        raise LimitExceeded(MOST_ENTRIES)
    tables = log.tables(at)
    goal = log.past().answer_at(plan, day, at)
    # All lists of one length, in order, with the logs that they make.
    lists = [([], log.copy(first))]
    while True:
        for moments, made in lists:
            if content_there(made, plan, tables, day) == goal:
                return moments
        lists = longer_lists(log, lists, first, last)


def check_moments(log, first, last):
    """Raises BadMoment with the first of two values that is no moment, or for the last one ahead of the first one."""
    for moment in (first, last):
        asked_moment(log, moment)
    if last < first:
        raise BadMoment(last)


def content_there(log, plan, tables, day):
    """The content of a question on a day at the last moment of a log, or None if it is not valid there.

    Its plan was made for some tables, and serves any log that has just these.
    """
    try:
        there = plan if log.tables() == tables else Plan(plan.tree, log.tables())
    except BadCode:
        return None
    return log.past().answer_at(there, day, len(log))


def longer_lists(log, lists, first, last):
    """The lists of moments that are longer by one than these ones, in order, with the logs that they make."""
    longer = []
    for moments, made in lists:
        start = moments[-1] if moments else first
        for moment in range(start + 1, last + 1):
            grown = with_entry(made, log[moment])
            if grown is not None:
                longer.append((moments + [moment], grown))
    return longer
