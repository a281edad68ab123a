"""Live questions: answers that go from moment to moment."""

from backfilled.asking import asked_moment, asked_question
from backfilled.differences import Difference
from backfilled.errors import BadMoment
from backfilled.uses import changed_between, uses_of


class Live:
    """A question on a day, at one moment after another."""

    def __init__(self, log, question, day):
        plan, at = asked_question(log, question, day, None)
        self.moment = at
        self.content = log.past().answer_at(plan, day, at)
        self._log = log
        self._plan = plan
        self._day = day
        self._changed = []
        self._looked_at = []

    def forward(self):
        """Goes to the next moment; returns the difference of the content, or None if there is no such moment."""
        if not self._is_valid_at(self.moment + 1):
            return None
        return self.go_to(self.moment + 1)

    def backward(self):
        """Goes to the moment before; returns the difference of the content, or None if it is not valid there."""
        if not self._is_valid_at(self.moment - 1):
            return None
        return self.go_to(self.moment - 1)

    def go_to(self, moment):
        """Goes to a moment, and returns the difference from the content ahead of it."""
        asked_moment(self._log, moment)
        if not self._is_valid_at(moment):
            raise BadMoment(moment)
        before = self.content
        if moment != self.moment:
            # What is told of the way is that of its last step.
            self._look(moment - 1 if self.moment < moment else moment + 1, moment)
            self.moment = moment
            self.content = self._log.past().answer_at(self._plan, self._day, moment)
        return Difference(before, self.content)

    def changed(self):
        """The list of the partitions used whose contents differ from those at the moment ahead of this one."""
        return list(self._changed)

    def looked_at(self):
        """The list of the partitions of derived tables used whose code changed, or which need one that changed."""
        return list(self._looked_at)

    def _is_valid_at(self, moment):
        """Whether there is a moment, and the question is valid there."""
        return self._log.valid_from(self._plan) <= moment <= len(self._log)

    def _look(self, before, after):
        """Finds out what is told of the step between two neighbouring moments."""
        uses = uses_of(self._log, self._plan, self._day, after)
        changed = changed_between(self._log, uses, before, after)
        old = self._log.links_at(before)
        new = self._log.links_at(after)
        there = {part: True for part in changed}
        self._changed = changed
        self._looked_at = [
            part for part in uses
            if old.text_of(part) != new.text_of(part) or any([need in there for need in new.needs_of(part)])
        ]
