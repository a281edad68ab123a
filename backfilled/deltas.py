"""Deltas: the difference of a code's content that follows from those of the partitions that it needs."""

from backfilled.differences import Difference
from backfilled.plans import Plan


def pass_through(code, day, tables, old, changes):
    """The difference of the content of a tree on a day.

    It is given a dict from the names of tables to their columns, one from the partitions that are needed
    to their contents, and one from some of these to their differences.
    """
    plan = Plan(code, tables)
    needs = plan.needs_on(day)
    before = [old[need] for need in needs]
    after = [changed(old[need], changes[need]) if need in changes else old[need] for need in needs]
    return Difference(plan.content_from(day, before), plan.content_from(day, after))


def changed(content, difference):
    """A content after a difference of it."""
    return content - difference.gone + difference.come
