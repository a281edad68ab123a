"""Replicas: logs that are kept at several sites, of entries with stamps."""

from backfilled.entries import add_entry, as_told, frozen
from backfilled.errors import BackfilledError, BadName, BadRow
from backfilled.logs import Log
from backfilled.stamps import is_stamped
from backfilled.stores import Store
from backfilled.values import is_integer, is_name


class Replica:
    """The stamped entries of one site, and the log that they make."""

    def __init__(self, site):
        if not is_name(site):
            raise BadName(site)
        self.site = site
        # The entries by their stamps, tuples of clock and site.
        self._entries = {}
        self._log = Log()
        self._moments = {}

    def log_now(self):
        """A new log of the stamped entries."""
        return self._log.copy()

    def clock(self):
        """The greatest clock, 0 if there is none."""
        return max([clock for clock, _ in self._entries], default=0)

    def add_table(self, name, columns, keys=1):
        """Adds a raw table; returns the clock."""
        return self._stamp(self._log.add_table(name, columns, keys))

    def put(self, table, day, row):
        """Puts a row into a raw table; returns the clock."""
        return self._stamp(self._log.put(table, day, row))

    def delete(self, table, day, key):
        """Deletes the row with a key from a raw table; returns the clock."""
        return self._stamp(self._log.delete(table, day, key))

    def set_code(self, table, text, day=0):
        """Sets the code of a derived table; returns the clock."""
        return self._stamp(self._log.set_code(table, text, day))

    def stamped(self):
        """The list of all stamped entries, in order."""
        return [told_with(stamp, self._entries[stamp]) for stamp in sorted(self._entries)]

    def skipped(self):
        """The list of the stamped entries that cannot be added to the log, in order."""
        stamps = [stamp for stamp in sorted(self._entries) if stamp not in self._moments]
        return [told_with(stamp, self._entries[stamp]) for stamp in stamps]

    def merge(self, entries):
        """Adds the stamped entries of a list that are not there, and returns how many they are."""
        new = self._new_among(entries)
        if new:
            for stamp, entry in new.items():
                self._entries[stamp] = entry
            self._make_log()
        return len(new)

    def moment_for(self, clock, site):
        """The moment of the entry with a stamp of any values in the log, or None."""
        if not is_integer(clock) or not isinstance(site, str):
            return None
        return self._moments.get((clock, site))

    def _stamp(self, moment):
        """Stamps the entry that was added to the log last; returns the clock."""
        clock = self.clock() + 1
        self._entries[(clock, self.site)] = frozen(self._log[moment])
        self._moments[(clock, self.site)] = moment
        return clock

    def _new_among(self, entries):
        """A dict from stamps to the entries of any value that are not there, if it is a list of such."""
        if not isinstance(entries, list):
            raise BadRow(entries)
        new = {}
        for item in entries:
            if not is_stamped(item):
                raise BadRow(item)
            stamp = (item[0], item[1])
            entry = frozen(item[2])
            known = self._entries.get(stamp, new.get(stamp, entry))
            if known != entry:
                raise BadRow(item)
            if stamp not in self._entries:
                new[stamp] = entry
        return new

    def _make_log(self):
        """Makes the log of the stamped entries anew."""
        self._log = Log()
        self._moments = {}
        for stamp in sorted(self._entries):
            moment = moment_added(self._log, self._entries[stamp])
            if moment is not None:
                self._moments[stamp] = moment


def told_with(stamp, entry):
    """A stamped entry as it is told."""
    return (*stamp, as_told(entry))


def moment_added(log, entry):
    """The moment of an entry that is added to a log, or None if it cannot be added."""
    try:
        return add_entry(log, as_told(entry))
    except BackfilledError:
        return None


def exchange(one, other):
    """Merges the entries of two replicas in both, and returns how many were new for each."""
    new = one.merge(other.stamped())
    return (new, other.merge(one.stamped()))


def rebased(store, log):
    """A new store of a log, with the records of a store."""
    copied = Store(log)
    copied.keep_records(store.records())
    return copied
