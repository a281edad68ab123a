"""The book of a store: the records there are."""

from backfilled.records import Record, contents_in


class Book:
    """Records, numbered in the order in which they came."""

    def __init__(self):
        # How many records were made, those that were dropped included, and how many times records were dropped.
        self.made_count = 0
        self.drop_count = 0
        # The number of the last record.
        self.last = 0
        # Records by their numbers; None in the place of one whose content nobody asked for yet.
        self._records = {}
        self._waiting = {}
        # What is told of records whose inputs nobody asked for yet.
        self._told = []
        # For each table, day and code, tuples of the number, the inputs and the columns of its records.
        self._places = {}

    def told(self):
        """The list of the records."""
        return [self.record(number) for number in list(self._records)]

    def record(self, number):
        """The record of a number."""
        if self._records[number] is None:
            self._find_inputs()
            part, plan, inputs = self._waiting.pop(number)
            content = plan.content_from(part[1], contents_in(inputs))
            self._records[number] = Record(part[0], part[1], plan.text, inputs, content)
        return self._records[number]

    def find(self, part, plan, inputs):
        """The number of the record of a partition by a plan from inputs, or None."""
        self._find_inputs()
        for number, known, columns in self._places.get((part[0], part[1], plan.text), []):
            if known == inputs and columns == plan.shape:
                return number
        return None

    def make(self, part, plan, inputs):
        """Computes the record of a partition, and returns its number."""
        content = plan.content_from(part[1], contents_in(inputs))
        self.made_count += 1
        return self._note(Record(part[0], part[1], plan.text, inputs, content), part, plan.text, inputs, plan.shape)

    def make_later(self, told, log):
        """Makes records that are computed when somebody asks for them.

        They are given by tuples of a partition, a plan, and the moments of a log that tell the inputs.
        """
        for part, plan, moments in told:
            self.made_count += 1
            self.last += 1
            self._records[self.last] = None
            self._told.append((self.last, part, plan, moments, log))

    def keep(self, record):
        """Adds a record that was made elsewhere."""
        part = (record.table, record.day)
        self._note(record, part, record.code, record.inputs, tuple(record.content.columns))

    def numbers(self):
        """The list of the numbers of the records there are, in order."""
        return list(self._records)

    def drop(self, numbers):
        """Drops the records of some numbers, and returns how many they were."""
        dropped = {number: True for number in numbers}
        if not dropped:
            return 0
        self._find_inputs()
        self._records = {number: record for number, record in self._records.items() if number not in dropped}
        self._waiting = {number: told for number, told in self._waiting.items() if number not in dropped}
        places = {}
        for place, known in self._places.items():
            kept = [item for item in known if item[0] not in dropped]
            if kept:
                places[place] = kept
        self._places = places
        self.drop_count += 1
        return len(dropped)

    def _find_inputs(self):
        """Finds the inputs of all records of which only moments are known."""
        told = self._told
        self._told = []
        for number, part, plan, moments, log in told:
            needs = plan.needs_on(part[1])
            past = log.past()
            inputs = tuple([(*need, past.content_at(need, moment)) for need, moment in zip(needs, moments)])
            self._waiting[number] = (part, plan, inputs)
            self._place(number, part, plan.text, inputs, plan.shape)

    def _note(self, record, part, text, inputs, shape):
        """Notes a record, and returns its number."""
        self.last += 1
        self._records[self.last] = record
        self._place(self.last, part, text, inputs, shape)
        return self.last

    def _place(self, number, part, text, inputs, shape):
        """Notes where a record is found."""
        place = (part[0], part[1], text)
        if place not in self._places:
            self._places[place] = []
        self._places[place].append((number, inputs, shape))
