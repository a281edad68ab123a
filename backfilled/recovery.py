"""Recovering a store from the texts of the lines of its journal."""

from backfilled.errors import BackfilledError
from backfilled.lines import read_columns, read_moments, read_number, read_row, read_small
from backfilled.logs import Log
from backfilled.stores import Store
from backfilled.values import is_name, is_within


class Recovery:
    """A store that is made again, line by line.

    What stands in the places of a line is read only if it is written as journals write it.
    """

    def __init__(self):
        self._log = Log()
        # The columns of what is put into raw tables and deleted from them.
        self._columns = {"put": {}, "delete": {}}
        # For tables and texts of their codes the least day on which the code held, and its plan.
        self._held = {}
        # What the texts of lines tell of records: two lines tell of one record only if their texts are equal.
        self._records = {}
        # What lines tell of named answers.
        self._names = {}

    def store_from(self, texts):
        """The store of the longest beginning of some texts that a journal may begin with, and how many these are."""
        many = 0
        while many < len(texts) and self._takes_entry(texts[many]):
            many += 1
        while many < len(texts) and self._takes_record(texts[many]):
            many += 1
        while many < len(texts) and self._takes_name(texts[many]):
            many += 1
        store = Store(self._log)
        store.restore_records(list(self._records.values()))
        store.restore_names(list(self._names.values()))
        return (store, many)

    def _takes_entry(self, text):
        """Whether the text of a line tells of an entry that can be added, adding it if so."""
        places = text.split(" ", 3)
        if len(places) != 4:
            return False
        word, name, digits, told = places
        # A day, or how many columns the key has.
        number = read_small(digits)
        if word in self._columns:
            return self._takes_row(word, name, number, told)
        try:
            if word == "code":
                return self._takes_code(name, number, told)
            return word == "table" and self._takes_table(name, number, told)
        except BackfilledError:
            return False

    def _takes_row(self, word, table, day, told):
        """Whether a row can be put, or that of a key deleted, doing so."""
        columns = self._columns[word].get(table)
        row = None if columns is None or day is None else read_row(told, columns)
        if row is None:
            return False
        self._log.add_change(word, table, day, row)
        return True

    def _takes_code(self, table, day, text):
        """Whether the text of a code is written as it is shown, setting the code if so."""
        plan = self._log.code_plan(table, text, day)
        if plan.text != text:
            return False
        self._log.add_code(table, plan, day)
        held = self._held.get((table, text))
        if held is None or day < held[0]:
            self._held[(table, text)] = (day, plan)
        return True

    def _takes_table(self, name, keys, told):
        """Adds a table; returns True."""
        columns = read_columns(told)
        self._log.add_table(name, columns, keys)
        self._columns["put"][name] = columns
        self._columns["delete"][name] = columns[:keys]
        return True

    def _takes_record(self, text):
        """Whether the text of a line tells of a record that is not there yet, making it if so."""
        places = text.split(" ", 4)
        held = self._held.get((places[1], places[4])) if len(places) == 5 and places[0] == "record" else None
        if held is None or text in self._records:
            return False
        _, table, number, told, _ = places
        day = read_small(number)
        first, plan = held
        if day is None or day < first:
            return False
        needs = plan.needs_on(day)
        moments = read_moments(told)
        if len(needs) != len(moments):
            return False
        for need, moment in zip(needs, moments):
            if not self._log.is_least(need, moment):
                return False
        self._records[text] = ((table, day), plan, moments)
        return True

    def _takes_name(self, text):
        """Whether the text of a line tells of an answer that can be named, naming it if so."""
        places = text.split(" ", 4)
        if len(places) != 5 or places[0] != "name":
            return False
        _, name, number, told, question = places
        day = read_small(number)
        moment = read_number(told)
        if day is None or not is_within(moment, 0, len(self._log)) or not is_name(name) or name in self._names:
            return False
        try:
            plan = self._log.question_plan(question, moment)
        except BackfilledError:
            return False
        if plan.text != question:
            return False
        self._names[name] = (name, plan, day, moment)
        return True
