"""Budgets: how many records that are not needed a store keeps."""

from backfilled.errors import BadNumber
from backfilled.values import is_within

GREATEST = 1000


class Budget:
    """Lets a store keep at most so many records that are not needed: those that were used last."""

    def __init__(self, store, most):
        if not is_within(most, 0, GREATEST):
            raise BadNumber(most)
        self._store = store
        self._most = most
        # For the tables, days and codes of records, tuples of each record that was used and the number of its last use.
        self._uses = {}
        self._last = 0

    def use(self, question, day, moment=None):
        """The answer of a question, whose records count as used; then it trims."""
        answer = self._store.ask(question, day, moment)
        for record in self._store.records_by(answer.uses(), answer.moment):
            self._note_use(record)
        self.trim()
        return answer

    def order(self):
        """The list of the records that are not needed, the one that is to be dropped first ahead."""
        return [record for _, record in self._numbered()]

    def trim(self):
        """Drops the first ones, so that there are not too many, and returns how many were dropped."""
        numbered = self._numbered()
        dropped = numbered[:max(0, len(numbered) - self._most)]
        return self._store.drop_numbers([number for number, _ in dropped])

    def _numbered(self):
        """The list of tuples of the numbers and the records of order()."""
        found = self._store.not_needed()
        last = {number: self._last_use(record) for number, record in found}
        numbers = sorted([(last[number], number) for number, _ in found])
        records = {number: record for number, record in found}
        return [(number, records[number]) for _, number in numbers]

    def _note_use(self, record):
        """Notes that a record is used now."""
        self._last += 1
        place = (record.table, record.day, record.code)
        others = [(known, last) for known, last in self._uses.get(place, []) if known != record]
        self._uses[place] = others + [(record, self._last)]

    def _last_use(self, record):
        """The number of the last use of a record, 0 if there is none."""
        for known, last in self._uses.get((record.table, record.day, record.code), []):
            if known == record:
                return last
        return 0
