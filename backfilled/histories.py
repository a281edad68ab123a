"""Histories: what questions had as their contents at all moments, and what is new."""

from backfilled.asking import asked_question
from backfilled.differences import Difference
from backfilled.errors import BadName, NameTaken, UnknownName
from backfilled.values import is_name


def history(log, question, day):
    """The list of all spans of a question on a day, tuples (first, last, content), in order."""
    plan, _ = asked_question(log, question, day, None)
    return spans(log, plan, day)


def history_of_row(log, question, day, row):
    """The list of the longest runs of moments, tuples (first, last), at which any value is a row of a question."""
    plan, _ = asked_question(log, question, day, None)
    runs = []
    for first, last, content in spans(log, plan, day):
        if row in content:
            if runs and runs[-1][1] == first - 1:
                runs[-1] = (runs[-1][0], last)
            else:
                runs.append((first, last))
    return runs


def spans(log, plan, day):
    """The spans of a question on a day that is valid at the last moment."""
    past = log.past()
    found = []
    for first in past.question_moments(plan, day):
        content = past.answer_at(plan, day, first)
        if not found or found[-1][1] != content:
            found.append((first, content))
    ends = [first - 1 for first, _ in found[1:]] + [len(log)]
    return [(first, last, content) for (first, content), last in zip(found, ends)]


class Watches:
    """Questions of the log of a store, each with a name, and what is new of them."""

    def __init__(self, store):
        self._store = store
        # For each name the plan, the day, and the moment up to which all was told.
        self._watched = {}

    def add(self, name, question, day):
        """Watches a question from the last moment on."""
        if not is_name(name):
            raise BadName(name)
        if name in self._watched:
            raise NameTaken(name)
        plan, moment = asked_question(self._store.log, question, day, None)
        self._watched[name] = (plan, day, moment)

    def remove(self, name):
        """Watches a question no longer."""
        self._check_name(name)
        del self._watched[name]

    def names(self):
        """The names, in the order in which they were added."""
        return list(self._watched)

    def news(self, name):
        """The list of tuples (moment, difference) for the later moments at which the content changed."""
        self._check_name(name)
        log = self._store.log
        plan, day, told = self._watched[name]
        self._watched[name] = (plan, day, len(log))
        past = log.past()
        found = []
        for moment in past.question_moments(plan, day):
            if moment > told:
                difference = Difference(past.answer_at(plan, day, moment - 1), past.answer_at(plan, day, moment))
                if len(difference) > 0:
                    found.append((moment, difference))
        return found

    def _check_name(self, name):
        """Raises UnknownName for any value that is no name of a watched question."""
        if not is_name(name) or name not in self._watched:
            raise UnknownName(name)
