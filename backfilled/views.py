"""Views: what is fresh, due or unknown, found out from records alone."""


class View:
    """The states of the partitions of a log at one moment, by the records in a book."""

    def __init__(self, log, moment, book):
        self._log = log
        self._at = moment
        self._links = log.links_at(moment)
        self._book = book
        self._contents = {}
        self._numbers = {}
        self._others = {}
        # The partitions that the work is to make fresh, once they were asked for, and how many at their beginning are.
        self._parts = None
        self._fresh_many = 0
        self._last = book.last
        self._drops = book.drop_count

    def state_of(self, part):
        """The state of a partition."""
        self._settle(part)
        return "fresh" if part in self._contents else self._others[part]

    def is_fresh(self, part):
        """Whether a partition is fresh."""
        self._settle(part)
        return part in self._contents

    def content_of(self, part):
        """The content of a partition if it is fresh, otherwise None."""
        self._settle(part)
        return self._contents.get(part)

    def number_of(self, part):
        """The number of the record by which a partition is fresh, or None if it is not, or by none."""
        self._settle(part)
        return self._numbers.get(part)

    def plan_of(self, part):
        """The plan of the code that holds for a partition, or None."""
        return self._links.plan_of(part)

    def needs_of_part(self, part):
        """The partitions that a partition needs: a list that is not to be changed."""
        return self._links.needs_of(part)

    def inputs_of(self, part):
        """The inputs of a partition all of whose needs are fresh."""
        return tuple([(*need, self._contents[need]) for need in self._links.needs_of(part)])

    def make_all(self, goals):
        """Makes some partitions fresh, and all that they need, each behind its own needs, these in order."""
        self._catch_up()
        links = self._links
        missing = links.needs_first(goals, self._contents, {})
        for part in missing:
            plan = links.plan_of(part)
            if plan is None:
                self._contents[part] = self._log.content_on(part[0], part[1], self._at)
            else:
                inputs = self.inputs_of(part)
                number = self._book.find(part, plan, inputs)
                self._note_fresh(part, self._book.make(part, plan, inputs) if number is None else number)

    def make(self, part):
        """Makes the record of a partition that is due."""
        number = self._book.make(part, self.plan_of(part), self.inputs_of(part))
        self._note_fresh(part, number)

    def answer(self, plan, day):
        """The content of a question all of whose needs are fresh."""
        return plan.content_from(day, [self._contents[need] for need in plan.needs_on(day)])

    def all_parts(self):
        """The partitions of all derived tables on the days of the log, in order."""
        if self._parts is None:
            self._parts = self._log.derived_parts(self._at)
        return self._parts

    def first_due(self, start):
        """The index of the first one of these partitions, from an index on, that is due; None if there is none."""
        parts = self.all_parts()
        self._catch_up()
        while self._fresh_many < len(parts) and self.is_fresh(parts[self._fresh_many]):
            self._fresh_many += 1
        for at in range(max(start, self._fresh_many), len(parts)):
            if self.state_of(parts[at]) == "due":
                return at
        return None

    def _settle(self, part):
        """Finds out the state of a partition, if it is not known."""
        self._catch_up()
        if part in self._contents or part in self._others:
            return
        missing = self._links.needs_first([part], self._contents, self._others)
        for near in missing:
            self._judge(near)

    def _judge(self, part):
        """Finds out the state of a partition from those of the ones that it needs."""
        plan = self._links.plan_of(part)
        if plan is None:
            self._contents[part] = self._log.content_on(part[0], part[1], self._at)
            return
        for need in self._links.needs_of(part):
            if need not in self._contents:
                self._others[part] = "unknown"
                return
        number = self._book.find(part, plan, self.inputs_of(part))
        if number is None:
            self._others[part] = "due"
        else:
            self._note_fresh(part, number)

    def _note_fresh(self, part, number):
        """Notes the record by which a partition is fresh."""
        self._numbers[part] = number
        self._contents[part] = self._book.record(number).content

    def _catch_up(self):
        """Forgets what dropping or making records may have changed."""
        if self._drops != self._book.drop_count:
            self._drops = self._book.drop_count
            self._contents = {}
            self._numbers = {}
            self._others = {}
            self._fresh_many = 0
        if self._last != self._book.last:
            self._last = self._book.last
            self._others = {}
