"""The past of a log: the contents from scratch of its partitions at all moments."""

from backfilled.moments import how_many_until


class Past:
    """What was found out of a log so far; what was at a moment stays true while the log grows."""

    def __init__(self, log):
        self._log = log
        self._contents = {}
        # For partitions the moments, in order, from which on they may have another content, up to this one.
        self._moments = {}
        self._last = 0

    def content_at(self, part, moment):
        """The content of a partition at a moment at which its table is there."""
        self._catch_up()
        key = self._begun(part, moment)
        if key not in self._contents:
            self._compute(part, moment)
        return self._contents[key]

    def answer_at(self, plan, day, moment):
        """The content of a question on a day at a moment."""
        return plan.content_from(day, {need: self.content_at(need, moment) for need in plan.needs_on(day)})

    def least_moment(self, part, content):
        """The least moment at which a partition of a table of the log is there and has a content, or None."""
        self._catch_up()
        self._learn(part)
        moments = list(self._moments[part])
        for moment in moments:
            if self.content_at(part, moment) == content:
                return moment
        return None

    def _catch_up(self):
        """Forgets what entries that came meanwhile may have changed."""
        if self._last != len(self._log):
            self._last = len(self._log)
            self._moments = {}

    def _compute(self, goal, moment):
        """Computes the content of a partition at a moment, and of those that it needs."""
        # A chain of needs may be longer than calls may stand within one another.
        waiting = [goal]
        while waiting:
            part = waiting[-1]
            plan = self._log.plan_on(part[0], part[1], moment)
            needs = [] if plan is None else plan.needs_on(part[1])
            missing = [need for need in needs if self._begun(need, moment) not in self._contents]
            if missing:
                waiting.extend(missing)
            else:
                self._note_content(part, moment, plan, needs)
                waiting.pop()

    def _note_content(self, part, moment, plan, needs):
        """Notes the content of a partition at a moment, if it is not known."""
        key = self._begun(part, moment)
        if key in self._contents:
            return
        if plan is None:
            self._contents[key] = self._log.content_on(part[0], part[1], moment)
        else:
            inputs = {need: self._contents[self._begun(need, moment)] for need in needs}
            self._contents[key] = plan.content_from(part[1], inputs)

    def _begun(self, part, moment):
        """The key of a content: the partition, and the moment from which on it is surely the same up to a moment."""
        if part not in self._moments:
            self._learn(part)
        moments = self._moments[part]
        return (part[0], part[1], moments[how_many_until(moments, moment) - 1])

    def _learn(self, goal):
        """Finds out the moments from which on a partition, and those that it needs, may have another content."""
        waiting = [goal]
        while waiting:
            part = waiting[-1]
            needs = [] if part in self._moments else self._needs_ever(part)
            missing = [need for need in needs if need not in self._moments]
            if missing:
                waiting.extend(missing)
            else:
                self._note_moments(part, needs)
                waiting.pop()

    def _needs_ever(self, part):
        """The partitions that a partition needs by any of the codes that held there."""
        plans = self._log.plans_held(part[0], part[1])
        return list({need: True for plan in plans.values() for need in plan.needs_on(part[1])})

    def _note_moments(self, part, needs):
        """Notes the moments of a partition from those of the ones that it needs."""
        if part not in self._moments:
            found = self._log.change_moments(part[0], part[1])
            start = found[0]
            for need in needs:
                found = found + [moment for moment in self._moments[need] if moment > start]
            self._moments[part] = sorted(set(found))
