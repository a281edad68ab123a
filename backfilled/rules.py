"""Rules of data: questions that must have no rows."""

from backfilled.errors import BadName, NameTaken, UnknownName
from backfilled.histories import spans
from backfilled.values import is_name


class Rules:
    """Rules of a log, each with a name."""

    def __init__(self, log):
        self._log = log
        self._plans = {}

    def add(self, name, question):
        """Adds a rule."""
        if not is_name(name):
            raise BadName(name)
        if name in self._plans:
            raise NameTaken(name)
        self._plans[name] = self._log.question_plan(question, len(self._log))

    def remove(self, name):
        """Takes a rule away."""
        self._check_name(name)
        del self._plans[name]

    def names(self):
        """The names, in the order in which they were added."""
        return list(self._plans)

    def broken(self, name, moment=None):
        """The list of tuples (day, rows) for the days on which a rule is broken at a moment, in order."""
        self._check_name(name)
        at = self._log.moment_for(moment)
        plan = self._plans[name]
        if at < self._log.valid_from(plan):
            return []
        past = self._log.past()
        contents = [(day, past.answer_at(plan, day, at)) for day in self._log.days(at)]
        return [(day, content.rows) for day, content in contents if len(content) > 0]

    def since(self, name):
        """The least moment from which on a rule has been broken up to the last one, or None if it is not broken."""
        self._check_name(name)
        runs = self._broken_runs(self._plans[name])
        moment = len(self._log)
        while any([first <= moment <= last for first, last in runs]):
            moment = min([first for first, last in runs if first <= moment <= last]) - 1
        return None if moment == len(self._log) else moment + 1

    def blame(self, name):
        """The list of tuples (day, row, moment) for the rows that break a rule, and the moments since which they do."""
        found = []
        for day, rows in self.broken(name):
            runs = spans(self._log, self._plans[name], day)[::-1]
            found.extend([(day, row, start_of_row(runs, row)) for row in rows])
        return found

    def _broken_runs(self, plan):
        """The runs of moments, tuples (first, last), at which a question has rows on one of the days of the log."""
        found = []
        for day, start in self._log.day_starts().items():
            for first, last, content in spans(self._log, plan, day):
                if len(content) > 0 and last >= start:
                    found.append((max(first, start), last))
        return found

    def _check_name(self, name):
        """Raises UnknownName for any value that is no name of a rule."""
        if not is_name(name) or name not in self._plans:
            raise UnknownName(name)


def start_of_row(runs, row):
    """The moment since which a row has been in the content, given the spans, the last one first."""
    start = None
    for first, _, content in runs:
        if row not in content:
            return start
        start = first
    return start
