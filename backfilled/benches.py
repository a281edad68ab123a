"""Benches: where partitions and answers of a log are computed, by the records in a book."""

from backfilled.answers import Answer
from backfilled.asking import asked_question
from backfilled.errors import BadName, NameTaken
from backfilled.uses import uses_of
from backfilled.values import is_name
from backfilled.views import View

MOST_VIEWS = 50


class Bench:
    """A log and a book, with the names of answers, and views of the moments that were asked for last."""

    def __init__(self, log, book):
        self._log = log
        self._book = book
        self._views = {}
        self._named = {}
        # How many times a name was given or taken away.
        self.name_changes = 0

    def view_at(self, at):
        """The view of a moment."""
        if at not in self._views:
            if len(self._views) >= MOST_VIEWS:
                self._views = {}
            self._views[at] = View(self._log, at, self._book)
        return self._views[at]

    def compute(self, table, day, at):
        """The content of a partition at a moment, computing what is due for it."""
        view = self.view_at(at)
        view.make_all([(table, day)])
        return view.content_of((table, day))

    def ask(self, question, day, moment, name):
        """The answer of a question, computing what is due for it."""
        plan, at = asked_question(self._log, question, day, moment)
        if name is not None:
            self.check_name(name)
            self.give_name(name, plan, day, at)
        return self._answer(plan, day, at, name)

    def check_name(self, name):
        """Raises BadName or NameTaken if any value cannot become the name of an answer."""
        if not is_name(name):
            raise BadName(name)
        if name in self._named:
            raise NameTaken(name)

    def give_name(self, name, plan, day, at):
        """Gives a name to the answer of a question at a moment."""
        self._named[name] = (plan, day, at)
        self.name_changes += 1

    def names(self):
        """The list of the names, in the order in which they were given."""
        return list(self._named)

    def is_given(self, name):
        """Whether any value is a name of an answer."""
        return is_name(name) and name in self._named

    def named(self):
        """The list of tuples (name, plan, day, moment) of the named answers, in the order of the names."""
        return [(name, plan, day, at) for name, (plan, day, at) in self._named.items()]

    def again(self, name):
        """The answer of a name, computing what is due for it."""
        plan, day, at = self._named[name]
        return self._answer(plan, day, at, name)

    def forget(self, name):
        """Takes a name away."""
        del self._named[name]
        self.name_changes += 1

    def needed(self):
        """A dict of the numbers of the records that are needed."""
        found = {}
        view = self.view_at(len(self._log))
        for part in view.all_parts():
            found[view.number_of(part)] = True
        for plan, day, at in self._named.values():
            for part in uses_of(self._log, plan, day, at):
                found[self.view_at(at).number_of(part)] = True
        return found

    def _answer(self, plan, day, at, name):
        """The answer of a question with a name, computing what is due for it."""
        view = self.view_at(at)
        view.make_all(plan.needs_on(day))
        return Answer(self._log, plan, day, at, name, view.answer(plan, day))
