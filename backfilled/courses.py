"""The orders in which what is due is computed, one partition at each step."""


class Course:
    """Goes through some partitions of a view in order, each behind its own needs."""

    def __init__(self, view, goals):
        self._view = view
        self._waiting = goals[::-1]

    def step(self):
        """Computes the next partition that is due, and returns it; None if all goals are fresh."""
        while self._waiting:
            part = self._waiting[-1]
            if self._view.is_fresh(part):
                self._waiting.pop()
            else:
                missing = [need for need in self._view.needs_of_part(part) if not self._view.is_fresh(need)]
                if not missing:
                    self._view.make(part)
                    return part
                self._waiting.extend(missing[::-1])
        return None

    def go(self):
        """Computes all that is due."""
        while self.step() is not None:
            pass


class Agenda:
    """Goes through all partitions of derived tables on the days of a view, always to the first one that is due."""

    def __init__(self, view):
        self._view = view
        self._parts = view.derived_parts()
        # As many partitions at the beginning are fresh.
        self._many = 0

    def step(self):
        """Computes the first partition that is due, and returns it; None if all are fresh."""
        while self._many < len(self._parts) and self._view.is_fresh(self._parts[self._many]):
            self._many += 1
        for at in range(self._many, len(self._parts)):
            if self._view.state_of(self._parts[at]) == "due":
                self._view.make(self._parts[at])
                return self._parts[at]
        return None
