"""Recovering a store from the lines of its journal."""

from backfilled.asking import asked_question
from backfilled.entries import add_entry
from backfilled.errors import BackfilledError
from backfilled.lines import name_text, read_entry, read_name, read_record
from backfilled.logs import Log
from backfilled.stores import Store

ENTRIES = 0
RECORDS = 1
NAMES = 2


class Recovery:
    """A store that is made again, line by line: of entries, then of records, then of names."""

    def __init__(self):
        self._log = Log()
        self._store = Store(self._log)
        self._reached = ENTRIES

    def store_now(self):
        """The store."""
        return self._store

    def takes(self, text):
        """Whether the text of a line can stand next, going on behind it if so."""
        if text.startswith("record "):
            return self._reached <= RECORDS and self._takes_record(text)
        if text.startswith("name "):
            return self._takes_name(text)
        return self._reached == ENTRIES and self._takes_entry(text)

    def _takes_entry(self, text):
        """Whether a text is that of an entry that can be added."""
        entry = read_entry(text)
        if entry is None:
            return False
        try:
            return self._takes_code(entry) if entry[0] == "code" else add_entry(self._log, entry) > 0
        except BackfilledError:
            return False

    def _takes_code(self, entry):
        """Whether an entry has the text of a code as it is shown, adding it if so."""
        _, table, text, day = entry
        plan = self._log.code_plan(table, text, day)
        if plan.text != text:
            return False
        self._log.add_code(table, plan, day)
        return True

    def _takes_record(self, text):
        """Whether a text is that of a record that is not there yet."""
        told = read_record(text)
        if told is None:
            return False
        table, day, moments, code = told
        plan = self._log.plan_held(table, day, code)
        inputs = None if plan is None else self._inputs(plan.needs_on(day), moments)
        if inputs is None or not self._store.restore_record((table, day), plan, inputs):
            return False
        self._reached = RECORDS
        return True

    def _inputs(self, needs, moments):
        """The inputs that moments tell, or None if these are not the least ones of their contents."""
        if len(needs) != len(moments):
            return None
        past = self._log.past()
        contents = [past.first_content(need, moment) for need, moment in zip(needs, moments)]
        if None in contents:
            return None
        return tuple([(*need, content) for need, content in zip(needs, contents)])

    def _takes_name(self, text):
        """Whether a text is that of an answer that can be named."""
        told = read_name(text)
        if told is None:
            return False
        name, day, moment, question = told
        try:
            plan, at = asked_question(self._log, question, day, moment)
            self._store.check_name(name)
        except BackfilledError:
            return False
        if name_text(name, day, at, plan.text) != text:
            return False
        self._store.restore_name(name, plan, day, at)
        self._reached = NAMES
        return True
