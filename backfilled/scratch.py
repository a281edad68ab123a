"""Contents of partitions, computed from scratch."""

from backfilled.checks import needs_of, shapes_of
from backfilled.codes import parse
from backfilled.computing import computed
from backfilled.contents import Content


class Scratch:
    """The contents from scratch of one moment of a log, each computed once."""

    def __init__(self, log, moment):
        self._log = log
        self._at = moment
        self._tables = log.tables(moment)
        self._plans = {}
        self._contents = {}

    def content_of(self, table, day):
        """The content of a partition."""
        # A chain of needs may be longer than calls may stand within one another.
        waiting = [(table, day)]
        while waiting:
            part = waiting[-1]
            missing = [] if part in self._contents else self._missing(part)
            if missing:
                waiting.extend(missing)
            else:
                self._compute(part)
                waiting.pop()
        return self._contents[(table, day)]

    def _plan_for(self, table, day):
        """The tree of the code that holds for a table on a day, with the columns of its parts; or None."""
        if self._log.is_raw(table, self._at):
            return None
        text = self._log.code_at(table, day, self._at)
        if text is None:
            return None
        if text not in self._plans:
            code = parse(text)
            self._plans[text] = (code, shapes_of(code, self._tables))
        return self._plans[text]

    def _missing(self, part):
        """The partitions that a partition needs and that are not computed yet."""
        plan = self._plan_for(part[0], part[1])
        if plan is None:
            return []
        return [need for need in needs_of(plan[0], part[1]) if need not in self._contents]

    def _compute(self, part):
        """Computes a partition, if it is not yet, from those that it needs."""
        if part in self._contents:
            return
        table, day = part
        plan = self._plan_for(table, day)
        if plan is not None:
            self._contents[part] = computed(plan[0], day, plan[1], self._contents)
        elif self._log.is_raw(table, self._at):
            self._contents[part] = self._log.raw(table, day, self._at)
        else:
            self._contents[part] = Content(self._tables[table], [])
