"""The log: entries that add tables, put and delete rows, and set the codes of derived tables."""

from backfilled.codes import parse_and_show
from backfilled.entries import as_told
from backfilled.errors import (
    BadCode, BadColumns, BadDay, BadMoment, BadName, BadNumber, BadRow, LimitExceeded, NameTaken, UnknownTable,
)
from backfilled.links import Links
from backfilled.past import Memory, Past
from backfilled.plans import Plan
from backfilled.tables import DerivedTable, RawTable
from backfilled.values import is_columns, is_day, is_name, is_row, is_within

MOST_TABLES = 20


class Log:
    """Entries, numbered from 1, and the states that they make."""

    def __init__(self):
        self._entries = []
        self._tables = {}
        self._derived = {}
        # The columns of the tables at the last moment.
        self._last_shapes = {}
        # For each moment, from 0 on, the last day, and the moment of the last code.
        self._last_days = [None]
        self._last_codes = [0]
        # The links between partitions from the moments of codes on, made when they are asked for.
        self._links = {}
        self._memory = Memory()

    def add_table(self, name, columns, keys=1):
        """Adds a raw table whose first columns are its key; returns the moment."""
        if not is_name(name):
            raise BadName(name)
        if name in self._tables:
            raise NameTaken(name)
        if not is_columns(columns):
            raise BadColumns(columns)
        if not is_within(keys, 1, len(columns)):
            raise BadNumber(keys)
        self._check_room(name)
        moment = self._keep(("table", name, tuple(columns), keys), None)
        self._tables[name] = RawTable(moment, tuple(columns), keys)
        self._last_shapes[name] = tuple(columns)
        return moment

    def put(self, table, day, row):
        """Puts a row into a raw table on a day; returns the moment."""
        known = self._raw_table(table)
        if not is_day(day):
            raise BadDay(day)
        if not is_row(row, known.shape):
            raise BadRow(row)
        return self.add_change("put", table, day, row)

    def delete(self, table, day, key):
        """Deletes the row with a key from a raw table on a day; returns the moment."""
        known = self._raw_table(table)
        if not is_day(day):
            raise BadDay(day)
        if not is_row(key, known.key_shape()):
            raise BadRow(key)
        return self.add_change("delete", table, day, key)

    def add_change(self, word, table, day, values):
        """Puts a row or deletes that of a key, both checked; returns the moment."""
        known = self._tables[table]
        is_put = word == "put"
        moment = self._keep((word, table, day, values), day if is_put else None)
        known.change(moment, day, values[:known.key_count], values if is_put else None)
        return moment

    def set_code(self, table, text, day=0):
        """Sets the code of a derived table from a day on; returns the moment."""
        return self.add_code(table, self.code_plan(table, text, day), day)

    def code_plan(self, table, text, day):
        """The plan of a code that can be set now."""
        if not is_name(table):
            raise BadName(table)
        known = self._tables.get(table)
        if isinstance(known, RawTable):
            raise NameTaken(table)
        code, written = parse_and_show(text)
        if not is_day(day):
            raise BadDay(day)
        plan = Plan(code, self._last_shapes, written)
        if known is None:
            # No code needs a table that is not there yet.
            self._check_room(table)
        elif known.shape != plan.shape or self._leads_to(plan.same_day_tables(), table):
            raise BadCode(None)
        return plan

    def add_code(self, table, plan, day):
        """Sets a code that was checked; returns the moment."""
        moment = self._keep(("code", table, plan.text, day), None)
        if table not in self._tables:
            self._derived[table] = DerivedTable(moment, plan.shape)
            self._tables[table] = self._derived[table]
            self._last_shapes[table] = plan.shape
        self._derived[table].add_code(moment, day, plan)
        self._last_codes[moment] = moment
        return moment

    def __getitem__(self, at):
        if not is_within(at, 1, len(self._entries)):
            raise BadMoment(at)
        return as_told(self._entries[at - 1])

    def __iter__(self):
        raise TypeError("a log is read by its moments, or by entries()")

    def __len__(self):
        return len(self._entries)

    def __eq__(self, other):
        return isinstance(other, Log) and self._entries == other._entries

    def entries(self):
        """The list of the entries."""
        return [as_told(entry) for entry in self._entries]

    def tables(self, moment=None):
        """A dict from the names of all tables to their columns, in the order in which they came."""
        return {name: list(shape) for name, shape in self._shapes(self.moment_for(moment)).items()}

    def is_raw(self, table, moment=None):
        """Whether a table is a raw one."""
        return isinstance(self._known_table(table, self.moment_for(moment)), RawTable)

    def columns_at(self, table, moment=None):
        """The columns of a table."""
        return list(self._known_table(table, self.moment_for(moment)).shape)

    def raw(self, table, day, moment=None):
        """The content of a raw table on a day."""
        last = self.moment_for(moment)
        known = self._raw_table(table)
        if known.moment > last:
            raise UnknownTable(table)
        if not is_day(day):
            raise BadDay(day)
        return known.content_on(day, last)

    def code_at(self, table, day, moment=None):
        """The text of the code that holds for a derived table on a day, or None."""
        plan = self._code_on(table, day, moment)[1]
        return None if plan is None else plan.text

    def code_moment(self, table, day, moment=None):
        """The moment of the entry of the code that holds for a derived table on a day, or None."""
        return self._code_on(table, day, moment)[0]

    def last_day(self, moment=None):
        """The greatest day of all entries that put a row, or None."""
        return self._last_days[self.moment_for(moment)]

    def copy(self, moment=None):
        """An independent log with the first entries."""
        last = self.moment_for(moment)
        copied = Log()
        copied._entries = self._entries[:last]
        copied._last_days = self._last_days[:last + 1]
        copied._last_codes = self._last_codes[:last + 1]
        copied._links = {at: links for at, links in self._links.items() if at <= last}
        copied._tables = {name: known.until(last) for name, known in self._tables.items() if known.moment <= last}
        for name, known in copied._tables.items():
            copied._last_shapes[name] = known.shape
            if isinstance(known, DerivedTable):
                copied._derived[name] = known
        return copied

    def moment_for(self, moment):
        """The moment that any value stands for: None for the last one."""
        if moment is None:
            return len(self._entries)
        if not is_within(moment, 0, len(self._entries)):
            raise BadMoment(moment)
        return moment

    def past(self):
        """The contents from scratch at all moments, each computed when it is asked for."""
        return Past(self, self._memory)

    def question_plan(self, question, moment):
        """The plan of any value as a question at a moment."""
        code, written = parse_and_show(question)
        return Plan(code, self._shapes(moment), written)

    def valid_from(self, plan):
        """The least moment at which all tables of a question are there, which is valid now."""
        return max([self._tables[name].moment for name, _ in plan.reads])

    def links_at(self, moment):
        """The plans and the needs of partitions at a moment."""
        start = self._last_codes[moment]
        if start not in self._links:
            self._links[start] = Links(self._derived, start)
        return self._links[start]

    def is_table(self, name, moment):
        """Whether any value is the name of a table at a moment."""
        return isinstance(name, str) and name in self._tables and self._tables[name].moment <= moment

    def content_on(self, table, day, moment):
        """The content of a partition at a moment at which it has no plan."""
        return self._tables[table].content_on(day, moment)

    def is_least(self, part, moment):
        """Whether any value is the least moment at which a partition has the content that it has then."""
        known = self._tables[part[0]]
        if moment == known.moment:
            return True
        if isinstance(known, RawTable):
            return known.is_new_content(part[1], moment)
        return self.past().is_new_content(part, moment)

    def change_moments(self, table, day):
        """The moments, in order, that may have changed a partition's rows or plan, ahead of them its table's."""
        return self._tables[table].change_moments(day)

    def put_moments(self, table, day, moment):
        """A dict from a raw table's rows on a day at a moment to the moments that put them."""
        return self._tables[table].put_moments(day, moment)

    def plan_held(self, table, day, text):
        """The plan of a code that held for a partition at some moment; None if any values tell of no such code."""
        if not is_day(day) or not self.is_table(table, len(self._entries)):
            return None
        return self._tables[table].plan_held(day, text)

    def plans_held(self, table, day):
        """A dict from the texts of the codes that held for a partition at any moment to their plans."""
        return self._tables[table].plans_held(day)

    def raw_tables(self, moment):
        """The names of the raw tables at a moment, in order."""
        return [name for name in self._shapes(moment) if name not in self._derived]

    def derived_tables(self, moment):
        """The names of the derived tables at a moment, in order."""
        return [name for name, known in self._derived.items() if known.moment <= moment]

    def days(self, moment):
        """The days of the log at a moment."""
        last = self._last_days[moment]
        return [] if last is None else list(range(last + 1))

    def day_starts(self):
        """A dict from the days of the log to the moments from which on they are among these."""
        starts = {}
        for moment, last in enumerate(self._last_days):
            first = len(starts)
            if last is not None:
                for day in range(first, last + 1):
                    starts[day] = moment
        return starts

    def derived_parts(self, moment):
        """The partitions of all derived tables on the days of the log at a moment, in order."""
        tables = self.derived_tables(moment)
        return [(table, day) for day in self.days(moment) for table in tables]

    def _shapes(self, moment):
        """A dict from the names of the tables at a moment to their columns, both not to be changed."""
        if moment == len(self._entries):
            return self._last_shapes
        return {name: known.shape for name, known in self._tables.items() if known.moment <= moment}

    def _known_table(self, name, moment):
        """What is known of the table that any value names at a moment."""
        if not self.is_table(name, moment):
            raise UnknownTable(name)
        return self._tables[name]

    def _raw_table(self, name):
        """What is known of the raw table that any value names."""
        known = self._tables.get(name) if isinstance(name, str) else None
        if not isinstance(known, RawTable):
            raise UnknownTable(name)
        return known

    def _code_on(self, name, day, moment):
        """The moment and the text of the code that holds for a derived table on a day, each perhaps None."""
        last = self.moment_for(moment)
        known = self._known_table(name, last)
        if isinstance(known, RawTable):
            raise UnknownTable(name)
        if not is_day(day):
            raise BadDay(day)
        return known.code_on(day, last)

    def _check_room(self, name):
        """Raises LimitExceeded if there is no room for a table of a name that is not there yet."""
        if name not in self._tables and len(self._tables) >= MOST_TABLES:
            raise LimitExceeded(MOST_TABLES)

    def _leads_to(self, names, table):
        """Whether tables are or need a table on the same day, by any codes, directly or through others."""
        waiting = list(names)
        seen = {}
        while waiting:
            name = waiting.pop()
            if name == table:
                return True
            if name not in seen and name in self._derived:
                seen[name] = True
                waiting.extend([near for plan in self._derived[name].plans() for near in plan.same_day_tables()])
        return False

    def _keep(self, entry, day):
        """Adds an entry that was checked, with the day on which it puts a row, or None; returns its moment."""
        last = self._last_days[-1]
        self._entries.append(entry)
        self._last_days.append(day if last is None or day is not None and last < day else last)
        self._last_codes.append(self._last_codes[-1])
        return len(self._entries)
