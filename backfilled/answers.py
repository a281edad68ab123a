"""Answers: the content of a question on a day at one moment."""

from backfilled.uses import uses_of


class Answer:
    """What a store answered; it never changes."""

    def __init__(self, log, plan, day, moment, name, content):
        self.question = plan.text
        self.day = day
        self.moment = moment
        self.name = name
        self.content = content
        self._log = log
        self._plan = plan

    def __contains__(self, x):
        return x in self.content

    def __len__(self):
        return len(self.content)

    def __eq__(self, other):
        return (
            isinstance(other, Answer) and self.question == other.question and self.day == other.day
            and self.moment == other.moment and self.content == other.content
        )

    def uses(self):
        """The list of the partitions that the question needs, directly or through others, in order."""
        return uses_of(self._log, self._plan, self.day, self.moment)

    def codes(self):
        """The list of tuples (table, day, moment) for those of derived tables, with the moment of the code or None."""
        return [
            (table, day, self._log.code_moment(table, day, self.moment))
            for table, day in self.uses() if not self._log.is_raw(table, self.moment)
        ]
