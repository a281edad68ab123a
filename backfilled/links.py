"""Links: the code that holds for each partition, and the partitions that it needs."""


class Links:
    """The plans and needs of partitions, which are the same from an entry of a code up to the next one."""

    def __init__(self, tables, moment):
        # These are the derived tables of a log that may grow; what comes behind the moment does not count here.
        self._tables = tables
        self._moment = moment
        self._found = {}
        # The goals that were asked for last, and all that they need: the same ones are often asked for again.
        self._goals = []
        self._order = []

    def plan_of(self, part):
        """The plan of the code that holds for a partition, or None if it has none, or is of a raw table."""
        if part not in self._found:
            self._find(part)
        return self._found[part][0]

    def text_of(self, part):
        """The text of the code that holds for a partition, or None."""
        plan = self.plan_of(part)
        return None if plan is None else plan.text

    def needs_of(self, part):
        """The partitions that a partition needs: a list that is not to be changed."""
        if part not in self._found:
            self._find(part)
        return self._found[part][1]

    def needs_first(self, goals, known, others):
        """The list of some partitions and of all that they need, each behind its own needs, these in order.

        Those that are known, keys of one of two dicts, are left out with their needs.
        """
        if known or others:
            return self._walk(goals, known, others)
        if goals != self._goals:
            self._order = self._walk(goals, known, others)
            self._goals = list(goals)
        return list(self._order)

    def _walk(self, goals, known, others):
        """What needs_first returns."""
        found = {}
        begun = {}
        # A chain of needs may be longer than calls may stand within one another.
        waiting = goals[::-1]
        while waiting:
            part = waiting.pop()
            if part in begun:
                found[part] = True
            elif part not in known and part not in others:
                needs = self.needs_of(part)
                if needs:
                    begun[part] = True
                    waiting.append(part)
                    waiting.extend(needs[::-1])
                else:
                    found[part] = True
        return list(found)

    def _find(self, part):
        """Finds out the plan and the needs of a partition."""
        table = self._tables.get(part[0])
        plan = None if table is None else table.plan_on(part[1], self._moment)
        self._found[part] = (plan, [] if plan is None else plan.needs_on(part[1]))
