"""Monitors: what came late, what waits to be computed, and what changes concern."""

from backfilled.asking import asked_moment, asked_part
from backfilled.uses import changed_between


class Monitor:
    """Looks at a store and its log; it changes neither."""

    def __init__(self, store):
        self._store = store

    def late(self):
        """The list of the moments of all late entries."""
        return late_moments(self._store.log)

    def waiting(self):
        """A dict from the derived tables to how many of their partitions on the log's days are not fresh."""
        log = self._store.log
        many = {table: 0 for table in log.derived_tables(len(log))}
        for table, _ in self._store.stale():
            many[table] += 1
        return many

    def concerned(self, table, day):
        """The list of the partitions of derived tables on the log's days that need a partition, in order."""
        log = self._store.log
        moment = asked_part(log, table, day, None)
        links = log.links_at(moment)
        parts = log.derived_parts(moment)
        reached = {(table, day): True}
        for part in links.needs_first(parts, {}, {}):
            if any([need in reached for need in links.needs_of(part)]):
                reached[part] = True
        return [part for part in parts if part in reached and part != (table, day)]

    def changed(self, first, last):
        """The list of the partitions of derived tables whose contents differ at two moments, in order."""
        log = self._store.log
        before = asked_moment(log, first)
        after = asked_moment(log, last)
        return changed_between(log, log.derived_parts(after), before, after)


def late_moments(log):
    """The moments of the entries of a log that put or delete a row on a day ahead of one on which one was put."""
    found = []
    days = {}
    for at, (word, table, *rest) in enumerate(log.entries()):
        if word in ("put", "delete") and rest[0] < days.get(table, 0):
            found.append(at + 1)
        if word == "put":
            days[table] = max(rest[0], days.get(table, 0))
    return found
