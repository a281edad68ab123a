"""The past of a log: the contents from scratch of its partitions at all moments."""

from backfilled.moments import how_many_until


class Past:
    """A log that does not grow any more, and what was found out of it."""

    def __init__(self, log):
        self._log = log
        self._tables = log.tables()
        self._moments = {}
        self._contents = {}

    def least_moment(self, part, content):
        """The least moment at which the table of a partition is there, and it has a content; or None."""
        if part[0] not in self._tables:
            return None
        self._learn(part)
        for moment in self._moments[part]:
            if self.content_at(part, moment) == content:
                return moment
        return None

    def content_at(self, part, moment):
        """The content of a partition at a moment at which its table is there."""
        # A chain of needs may be longer than calls may stand within one another.
        waiting = [part]
        while waiting:
            last = waiting[-1]
            plan = self._log.plan_on(last[0], last[1], moment)
            needs = [] if plan is None else plan.needs_on(last[1])
            missing = [need for need in needs if self._begun(need, moment) not in self._contents]
            if missing:
                waiting.extend(missing)
            else:
                self._note_content(last, moment, plan, needs)
                waiting.pop()
        return self._contents[self._begun(part, moment)]

    def _learn(self, part):
        """Finds out the moments, in order, from which on a partition may have another content."""
        waiting = [part]
        while waiting:
            last = waiting[-1]
            needs = [] if last in self._moments else self._needs_ever(last)
            missing = [need for need in needs if need not in self._moments]
            if missing:
                waiting.extend(missing)
            else:
                self._note_moments(last, needs)
                waiting.pop()

    def _needs_ever(self, part):
        """The partitions that a partition needs by any of the codes that held there."""
        plans = self._log.plans_held(part[0], part[1])
        return list({need: True for plan in plans.values() for need in plan.needs_on(part[1])})

    def _note_moments(self, part, needs):
        """Notes the moments of a partition from those of the ones that it needs."""
        if part not in self._moments:
            found = self._log.change_moments(part[0], part[1])
            start = found[0]
            for need in needs:
                found = found + [moment for moment in self._moments[need] if moment > start]
            self._moments[part] = sorted(set(found))

    def _begun(self, part, moment):
        """The key of a content: the partition, and the moment from which on it is surely the same up to a moment."""
        if part not in self._moments:
            self._learn(part)
        moments = self._moments[part]
        return (part[0], part[1], moments[how_many_until(moments, moment) - 1])

    def _note_content(self, part, moment, plan, needs):
        """Notes the content of a partition at a moment."""
        key = self._begun(part, moment)
        if key in self._contents:
            return
        if plan is None:
            self._contents[key] = self._log.content_on(part[0], part[1], moment)
        else:
            inputs = {need: self._contents[self._begun(need, moment)] for need in needs}
            self._contents[key] = plan.content_from(part[1], inputs)
