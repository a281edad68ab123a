"""The console: commands as texts, done to a store."""

from backfilled.commands import answer_to
from backfilled.errors import InvalidCommand
from backfilled.logs import Log
from backfilled.places import words_of
from backfilled.stores import Store


class Console:
    """A new store of a new log, to which commands are done."""

    def __init__(self):
        self._store = Store(Log())

    @property
    def store(self):
        """The store."""
        return self._store

    def execute(self, command):
        """Does what any value tells, if it is a command, and returns what is told of it."""
        told = words_of(command)
        if told is None:
            raise InvalidCommand(command)
        word, items = told
        return answer_to(self._store, word, items)
