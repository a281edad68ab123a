"""Courses: the order in which what is due for some partitions is computed, one of them at each step."""


class Course:
    """Goes through some partitions of a view in order, each behind its own needs."""

    def __init__(self, view, goals):
        self._view = view
        self._waiting = goals[::-1]

    def step(self):
        """Computes the next partition that is due, and returns it; None if all goals are fresh."""
        while self._waiting:
            part = self._waiting[-1]
            if self._view.is_fresh(part):
                self._waiting.pop()
            else:
                missing = [need for need in self._view.needs_of_part(part) if not self._view.is_fresh(need)]
                if not missing:
                    self._view.make(part)
                    return part
                self._waiting.extend(missing[::-1])
        return None
