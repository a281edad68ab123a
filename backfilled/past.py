"""The past of a log: the contents from scratch of its partitions at all moments."""


class Memory:
    """What was found out of a log so far; what was at a moment stays true while the log grows."""

    def __init__(self):
        # For each moment that was asked for, the contents of partitions.
        self.contents = {}
        # For partitions the moments, in order, at which they may have got another content, up to this one.
        self.moments = {}
        self.last = 0
        # The scenes of papers at the moment that was asked for last.
        self.scenes = {}
        self.scenes_moment = None


class Past:
    """A log with what is remembered of it.

    The log itself has the memory alone: if it had its past, which has the log, neither would be freed at once.
    """

    def __init__(self, log, memory):
        self._log = log
        self._memory = memory

    def content_at(self, part, moment):
        """The content of a partition at a moment at which its table is there."""
        contents = self._memory.contents.setdefault(moment, {})
        if part not in contents:
            self._compute([part], moment, contents)
        return contents[part]

    def answer_at(self, plan, day, moment):
        """The content of a question on a day at a moment."""
        return plan.content_from(day, self.contents_at(plan.needs_on(day), moment))

    def contents_at(self, parts, moment):
        """The list of the contents of partitions at a moment at which their tables are there."""
        contents = self._memory.contents.setdefault(moment, {})
        self._compute(parts, moment, contents)
        return [contents[part] for part in parts]

    def question_moments(self, plan, day):
        """The moments, in order, at which the content of a question may have changed.

        Ahead of them is the least one at which it is valid: all of its tables are there, and columns never change.
        """
        start = self._log.valid_from(plan)
        later = [moment for need in plan.needs_on(day) for moment in self._change_moments(need) if moment > start]
        return [start] + sorted(set(later))

    def least_moment(self, part, content):
        """The least moment at which a partition of a table of the log is there and has a content, or None."""
        for moment in self._change_moments(part):
            if self.content_at(part, moment) == content:
                return moment
        return None

    def is_new_content(self, part, moment):
        """Whether any value is a moment that changed the content of a partition to one that it never was before."""
        moments = self._change_moments(part)
        if moment not in moments:
            return False
        content = self.content_at(part, moment)
        for earlier in moments[:moments.index(moment)][::-1]:
            if self.content_at(part, earlier) == content:
                return False
        return True

    def scenes_at(self, moment):
        """The scenes of papers at a moment that are kept: a dict that is to be added to."""
        if self._memory.scenes_moment != moment:
            self._memory.scenes_moment = moment
            self._memory.scenes = {}
        return self._memory.scenes

    def _compute(self, goals, moment, contents):
        """Computes the contents of partitions at a moment, and of those that they need, into a dict."""
        links = self._log.links_at(moment)
        missing = links.needs_first(goals, contents, {})
        for part in missing:
            plan = links.plan_of(part)
            if plan is None:
                contents[part] = self._log.content_on(part[0], part[1], moment)
            else:
                contents[part] = plan.content_from(part[1], [contents[need] for need in links.needs_of(part)])

    def _change_moments(self, goal):
        """The moments, in order, at which the content of a partition may have changed, ahead of them its table's.

        The list is not to be changed.
        """
        memory = self._memory
        if memory.last != len(self._log):
            memory.last = len(self._log)
            memory.moments = {}
        # A chain of needs may be longer than calls may stand within one another.
        waiting = [goal]
        begun = {}
        while waiting:
            part = waiting.pop()
            if part in begun:
                self._note_moments(part, begun[part])
            elif part not in memory.moments:
                begun[part] = self._needs_ever(part)
                waiting.append(part)
                waiting.extend(begun[part])
        return memory.moments[goal]

    def _needs_ever(self, part):
        """The partitions that a partition needs by any of the codes that held there."""
        plans = self._log.plans_held(part[0], part[1])
        return list({need: True for plan in plans.values() for need in plan.needs_on(part[1])})

    def _note_moments(self, part, needs):
        """Notes the moments of a partition from those of the ones that it needs."""
        moments = self._memory.moments
        if part not in moments:
            found = self._log.change_moments(part[0], part[1])
            start = found[0]
            for need in needs:
                found = found + [moment for moment in moments[need] if moment > start]
            moments[part] = sorted(set(found)) if needs else found
