"""Certificates: what shows anyone that an answer is right."""

from backfilled.asking import asked_question
from backfilled.values import is_day, is_row


def certificate(log, answer):
    """A certificate of an answer that a store of a log gave."""
    plan, at = asked_question(log, answer.question, answer.day, answer.moment)
    links = log.links_at(at)
    past = log.past()
    raw = log.raw_tables(at)
    parts = links.needs_first(plan.needs_on(answer.day), {}, {})
    return [step_for(part, links.plan_of(part), past.content_at(part, at).rows, part[0] in raw) for part in parts]


def step_for(part, plan, rows, is_raw):
    """The step of a partition with its plan and its rows."""
    if is_raw:
        return (*part, rows)
    return (*part, None if plan is None else plan.text, rows)


def check_certificate(log, question, day, moment, rows, value):
    """Whether any value is a certificate of any value as the rows of a question on a day at a moment."""
    plan, at = asked_question(log, question, day, moment)
    if not isinstance(value, list):
        return False
    checker = Checker(log, at)
    for step in value:
        if not checker.takes(step):
            return False
    return checker.shows(plan, day, rows)


class Checker:
    """Goes through the steps of a certificate, and keeps the contents of which they are right."""

    def __init__(self, log, moment):
        self._log = log
        self._at = moment
        self._links = log.links_at(moment)
        # For each table how many items its steps have.
        raw = log.raw_tables(moment)
        self._lengths = {table: 3 if table in raw else 4 for table in log.tables(moment)}
        self._contents = {}

    def takes(self, step):
        """Whether any value is a right step behind those ahead, going on behind it if so."""
        if not isinstance(step, tuple) or len(step) not in (3, 4) or not isinstance(step[0], str):
            return False
        if self._lengths.get(step[0]) != len(step) or not is_day(step[1]):
            return False
        content = self._content_for(step)
        if content is None or not are_rows(step[-1], content):
            return False
        self._contents[(step[0], step[1])] = content
        return True

    def shows(self, plan, day, rows):
        """Whether a question computes any value, as its rows, from what the steps tell."""
        content = self._content_by(plan, day, plan.needs_on(day))
        return content is not None and are_rows(rows, content)

    def _content_for(self, step):
        """The content that a step should have; None if its text, or what the steps ahead tell, is not right."""
        part = (step[0], step[1])
        plan = self._links.plan_of(part)
        text = None if len(step) == 3 else step[2]
        if plan is None:
            return self._log.content_on(part[0], part[1], self._at) if text is None else None
        if not isinstance(text, str) or text != plan.text:
            return None
        return self._content_by(plan, step[1], self._links.needs_of(part))

    def _content_by(self, plan, day, needs):
        """The content that a plan computes from what the steps tell of its needs; None if they do not tell of all."""
        inputs = [self._contents[need] for need in needs if need in self._contents]
        return plan.content_from(day, inputs) if len(inputs) == len(needs) else None


def are_rows(value, content):
    """Whether any value is the list of the rows of a content."""
    if not isinstance(value, list) or len(value) != len(content):
        return False
    # What is equal to a row need not be one: True is equal to 1.
    columns = content.columns
    return all([is_row(row, columns) for row in value]) and value == content.rows
