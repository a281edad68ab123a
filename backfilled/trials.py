"""Trials: what would be if a code were put into the log."""

from backfilled.benches import Bench
from backfilled.differences import Difference
from backfilled.errors import TrialOver


class Trial:
    """A code that is not put into the log of a store yet."""

    def __init__(self, store, book, table, text, day):
        self._store = store
        self._book = book
        self._table = table
        self._text = text
        self._day = day
        self._over = False
        # The log with the further entry, as it was made when the log of the store had so many entries.
        self._log = None
        self._many = None
        self._bench = None

    def __enter__(self):
        return self

    def __exit__(self, *told):
        self._over = True

    def ask(self, question, day):
        """The answer of a question on a day, at the moment of the further entry."""
        self._catch_up()
        return self._bench.ask(question, day, None, None)

    def compare(self, table, day):
        """The difference from a partition in the log to that in the trial."""
        self._catch_up()
        before = self._store.compute(table, day)
        return Difference(before, self._bench.compute(table, day, len(self._log)))

    def promote(self):
        """Puts the code into the log, and ends the trial; returns the moment."""
        self._check_state()
        moment = self._store.log.set_code(self._table, self._text, self._day)
        self._over = True
        return moment

    def end(self):
        """Ends the trial."""
        self._check_state()
        self._over = True

    def _check_state(self):
        """Raises TrialOver if the trial is over."""
        if self._over:
            raise TrialOver()

    def _catch_up(self):
        """Makes the log with the further entry, if it was not made of the log as it is now."""
        self._check_state()
        if self._many != len(self._store.log):
            grown = self._store.log.copy()
            grown.set_code(self._table, self._text, self._day)
            self._many = len(self._store.log)
            self._log = grown
            self._bench = Bench(grown, self._book)
