"""The book of a store: the records there are."""

from backfilled.records import Record, contents_in


class Book:
    """Records, numbered in the order in which they were made."""

    def __init__(self):
        # How many records were made, those that were dropped included, and how many times records were dropped.
        self.made_count = 0
        self.drop_count = 0
        self._records = {}
        # For each table, day and code, the numbers of its records.
        self._places = {}

    def told(self):
        """The list of the records."""
        return list(self._records.values())

    def record(self, number):
        """The record of a number."""
        return self._records[number]

    def find(self, part, plan, inputs):
        """The number of the record of a partition by a plan from inputs, or None."""
        for number in self._places.get((part[0], part[1], plan.text), []):
            record = self._records[number]
            if record.inputs == inputs and record.content.has_shape(plan.shape):
                return number
        return None

    def make(self, part, plan, inputs):
        """Computes the record of a partition, and returns its number."""
        content = plan.content_from(part[1], contents_in(inputs))
        return self.keep(Record(part[0], part[1], plan.text, inputs, content))

    def keep(self, record):
        """Adds a record that was just made, and returns its number."""
        self.made_count += 1
        self._note(self.made_count, record)
        return self.made_count

    def of_numbers(self, numbers):
        """The list of the records that have one of the numbers, a dict."""
        return [record for number, record in self._records.items() if number in numbers]

    def drop_all_but(self, numbers):
        """Drops the records that have none of the numbers, a dict; returns how many they were."""
        kept = {number: record for number, record in self._records.items() if number in numbers}
        many = len(self._records) - len(kept)
        self._records = {}
        self._places = {}
        for number, record in kept.items():
            self._note(number, record)
        self.drop_count += 1
        return many

    def _note(self, number, record):
        """Notes a record under its number."""
        self._records[number] = record
        self._places.setdefault((record.table, record.day, record.code), []).append(number)
