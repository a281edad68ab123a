"""Contents of partitions, computed from scratch."""


class Scratch:
    """The contents from scratch of one moment of a log, each computed once."""

    def __init__(self, log, moment):
        self._log = log
        self._at = moment
        self._contents = {}

    def content_of(self, table, day):
        """The content of a partition."""
        # A chain of needs may be longer than calls may stand within one another.
        waiting = [(table, day)]
        while waiting:
            part = waiting[-1]
            plan = self._log.plan_on(part[0], part[1], self._at)
            missing = [] if plan is None else self._missing(plan.needs_on(part[1]))
            if missing:
                waiting.extend(missing)
            else:
                self._compute(part, plan)
                waiting.pop()
        return self._contents[(table, day)]

    def answer(self, plan, day):
        """The content of a question on a day."""
        for table, on in plan.needs_on(day):
            self.content_of(table, on)
        return plan.content_from(day, self._contents)

    def computed(self):
        """A dict from the partitions that were asked for, or needed for these, to their contents.

        Each stands behind those that it needs.
        """
        return dict(self._contents)

    def _missing(self, needs):
        """Those of the partitions that are not computed yet."""
        return [need for need in needs if need not in self._contents]

    def _compute(self, part, plan):
        """Computes a partition, if it is not yet, from those that it needs."""
        if part in self._contents:
            return
        table, day = part
        if plan is None:
            self._contents[part] = self._log.content_on(table, day, self._at)
        else:
            self._contents[part] = plan.content_from(day, self._contents)
