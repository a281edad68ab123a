"""Stores: a log, the records of what was computed from it, and the names of answers."""

from backfilled.asking import asked_part
from backfilled.benches import Bench
from backfilled.books import Book
from backfilled.courses import Course
from backfilled.errors import BadDay, BadName, UnknownName, UnknownTable
from backfilled.runners import Claim
from backfilled.trials import Trial
from backfilled.values import is_day, is_name


class Store:
    """Computes partitions and answers of a log, each from what was computed before."""

    def __init__(self, log):
        self._log = log
        self._book = Book()
        self._bench = Bench(log, self._book)
        self._claims = []
        self._claimed = 0
        # The journal that was written or read last, and what it was true of.
        self._journal = None
        self._journal_stamp = None

    @property
    def log(self):
        """The log."""
        return self._log

    @property
    def made(self):
        """How many records were made so far."""
        return self._book.made_count

    def records(self):
        """The list of the records there are, in the order in which they were made."""
        return self._book.told()

    def state_at(self, table, day, moment=None):
        """The state of a partition."""
        view = self._bench.view_at(asked_part(self._log, table, day, moment))
        return view.state_of((table, day))

    def content_at(self, table, day, moment=None):
        """The content of a partition if it is fresh, otherwise None."""
        view = self._bench.view_at(asked_part(self._log, table, day, moment))
        return view.content_of((table, day))

    def compute(self, table, day, moment=None):
        """The content of a partition, computing what is due for it."""
        return self._bench.compute(table, day, asked_part(self._log, table, day, moment))

    def due(self, moment=None):
        """The list of the partitions that are due, in order."""
        view = self._bench.view_at(self._log.moment_for(moment))
        return [part for part in view.all_parts() if view.state_of(part) == "due"]

    def is_done(self, moment=None):
        """Whether all partitions of derived tables on the days of the log are fresh."""
        view = self._bench.view_at(self._log.moment_for(moment))
        return all([view.is_fresh(part) for part in view.all_parts()])

    def stale(self):
        """The list of the partitions of derived tables on the days of the log that are not fresh, in order."""
        view = self._bench.view_at(len(self._log))
        return [part for part in view.all_parts() if not view.is_fresh(part)]

    def work(self, moment=None):
        """A generator: computes the first partition that is due, and yields it, until none is due."""
        part = self.work_once(moment)
        while part is not None:
            yield part
            part = self.work_once(moment)

    def work_once(self, moment=None):
        """Computes the first partition that is due, and returns it; None if none is due."""
        view = self._bench.view_at(self._log.moment_for(moment))
        at = view.first_due(0)
        if at is None:
            return None
        view.make(view.all_parts()[at])
        return view.all_parts()[at]

    def backfill(self, table, first, last):
        """A generator: for each day computes what is due for a partition, and yields it."""
        self._check_backfill(table, first, last)
        day = first
        begun = None
        while day <= last:
            stamp = (day, len(self._log), self._book.drop_count)
            if begun != stamp:
                begun = stamp
                course = Course(self._bench.view_at(len(self._log)), [(table, day)])
            part = course.step()
            if part is None:
                day += 1
            else:
                yield part

    def claim(self, runner):
        """A new claim of the first partition that is due and not claimed, or None."""
        if not is_name(runner):
            raise BadName(runner)
        view = self._bench.view_at(len(self._log))
        taken = self.claims()
        at = view.first_due(0)
        while at is not None and is_taken(taken, view.all_parts()[at], view):
            at = view.first_due(at + 1)
        return None if at is None else self._new_claim(runner, view.all_parts()[at], view)

    def claims(self):
        """The list of the open claims, by number."""
        return [claim for claim in self._claims if claim.state == "open"]

    def crash(self, runner):
        """Lets all open claims of a runner be gone, and returns how many they were."""
        if not is_name(runner):
            raise BadName(runner)
        lost = [claim for claim in self.claims() if claim.runner == runner]
        for claim in lost:
            claim.give_up()
        return len(lost)

    def ask(self, question, day, moment=None, name=None):
        """The answer of a question, computing what is due for it, perhaps with a name."""
        return self._bench.ask(question, day, moment, name)

    def names(self):
        """The names of the answers, in the order in which they were given."""
        return self._bench.names()

    def again(self, name):
        """The answer of a name, computing what is due for it."""
        if not self._bench.is_given(name):
            raise UnknownName(name)
        return self._bench.again(name)

    def forget(self, name):
        """Takes the name of an answer away."""
        if not self._bench.is_given(name):
            raise UnknownName(name)
        self._bench.forget(name)

    def needed(self):
        """The list of the needed records, in the order in which they were made."""
        needed = self._bench.needed()
        return [self._book.record(number) for number in self._book.numbers() if number in needed]

    def not_needed(self):
        """The list of tuples of the numbers and the other records, in order."""
        needed = self._bench.needed()
        return [(number, self._book.record(number)) for number in self._book.numbers() if number not in needed]

    def drop(self):
        """Drops all records that are not needed, and returns how many they were."""
        needed = self._bench.needed()
        return self._book.drop([number for number in self._book.numbers() if number not in needed])

    def drop_numbers(self, numbers):
        """Drops the records of some numbers, and returns how many they were."""
        return self._book.drop(numbers)

    def records_by(self, parts, moment):
        """The list of the records by which some partitions are fresh at a moment, those by none left out."""
        view = self._bench.view_at(moment)
        numbers = [view.number_of(part) for part in parts]
        return [self._book.record(number) for number in numbers if number is not None]

    def keep_records(self, records):
        """Adds records that were made in another store."""
        for record in records:
            self._book.keep(record)

    def trial(self, table, text, day=0):
        """A trial of a code for a table from a day on."""
        self._log.code_plan(table, text, day)
        return Trial(self, self._book, table, text, day)

    def named(self):
        """The list of tuples (name, plan, day, moment) of the named answers, in the order of the names."""
        return self._bench.named()

    def restore_names(self, told):
        """Gives names to answers, given tuples (name, plan, day, moment), without computing anything."""
        for name, plan, day, at in told:
            self._bench.give_name(name, plan, day, at)

    def restore_records(self, told):
        """Makes records that are not there, given tuples (part, plan, moments of their inputs)."""
        self._book.make_later(told, self._log)

    def kept_journal(self):
        """The journal that was kept last if it is that of the store as it is now, otherwise None."""
        return self._journal if self._journal_stamp == self._stamp() else None

    def keep_journal(self, text):
        """Keeps the journal of the store as it is now."""
        self._journal = text
        self._journal_stamp = self._stamp()

    def _stamp(self):
        """What changes whenever the log, the records or the names do."""
        return (len(self._log), self._book.last, self._book.drop_count, self._bench.name_changes)

    def _new_claim(self, runner, part, view):
        """The claim of a partition that is due in a view, with the next number."""
        self._claimed += 1
        claim = Claim(self._book, self._claimed, runner, part, view.plan_of(part), view.inputs_of(part))
        self._claims = self.claims() + [claim]
        return claim

    def _check_backfill(self, table, first, last):
        """Raises what is wrong with the arguments of backfill."""
        if self._log.is_raw(table):
            raise UnknownTable(table)
        for day in (first, last):
            if not is_day(day):
                raise BadDay(day)
        if last < first:
            raise BadDay(last)


def is_taken(claims, part, view):
    """Whether one of the claims is that of a partition as it is due in a view."""
    code = view.plan_of(part).text
    inputs = view.inputs_of(part)
    return any([
        (claim.table, claim.day) == part and claim.code == code and claim.inputs == inputs for claim in claims
    ])
