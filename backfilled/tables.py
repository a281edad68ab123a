"""The tables of a log, with all that its entries tell of them."""

from backfilled.contents import Content


class RawTable:
    """A table whose rows the entries put and delete."""

    def __init__(self, moment, shape, key_count):
        self.moment = moment
        self.shape = shape
        self.key_count = key_count
        self._changes = {}

    def key_shape(self):
        """The columns of the key."""
        return list(self.shape[:self.key_count])

    def put_row(self, moment, day, row):
        """Notes that an entry puts a row on a day."""
        self._changes.setdefault(day, []).append((moment, row[:self.key_count], row))

    def delete_key(self, moment, day, key):
        """Notes that an entry deletes a key on a day."""
        self._changes.setdefault(day, []).append((moment, key, None))

    def content_on(self, day, moment):
        """The content on a day at a moment."""
        rows = {}
        for at, key, row in self._changes.get(day, []):
            if at <= moment:
                rows[key] = row
        return Content(list(self.shape), [row for row in rows.values() if row is not None])


class DerivedTable:
    """A table whose rows its codes compute."""

    def __init__(self, moment, shape):
        self.moment = moment
        self.shape = shape
        self._codes = []
        self._needs = {}

    def add_code(self, moment, text, day, needs):
        """Notes a code from a day on, and the tables that it needs on the same day."""
        self._codes.append((moment, text, day))
        for name in needs:
            self._needs[name] = True

    def same_day_tables(self):
        """The names of the tables that any of its codes needs on the same day."""
        return list(self._needs)

    def code_on(self, day, moment):
        """The moment and the text of the code that holds on a day at a moment, each None if there is none."""
        for at, text, first in self._codes[::-1]:
            if at <= moment and first <= day:
                return (at, text)
        return (None, None)
