"""Claims: partitions that runners compute."""

from backfilled.errors import NotOpen
from backfilled.records import contents_in


class Claim:
    """A partition that a runner claimed, with the code and the inputs that it had then."""

    def __init__(self, book, number, runner, part, plan, inputs):
        self.number = number
        self.runner = runner
        self.table, self.day = part
        self.code = plan.text
        self.inputs = inputs
        self.state = "open"
        self._book = book
        self._plan = plan

    def run(self):
        """The content that the code computes from the inputs."""
        return self._plan.content_from(self.day, contents_in(self.inputs))

    def finish(self):
        """Makes the record if it is not there; returns whether it was made."""
        self._check_state()
        part = (self.table, self.day)
        is_missing = self._book.find(part, self._plan, self.inputs) is None
        if is_missing:
            self._book.make(part, self._plan, self.inputs)
        self.state = "done"
        return is_missing

    def give_up(self):
        """Lets the claim be gone."""
        self._check_state()
        self.state = "gone"

    def _check_state(self):
        """Raises NotOpen if the claim is not open."""
        if self.state != "open":
            raise NotOpen(self.number)
