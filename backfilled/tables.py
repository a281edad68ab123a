"""The tables of a log, with all that its entries tell of them.

Both classes have the same methods but for the changes that they note: a raw table has no plans,
and a derived one no rows of its own.
"""

from backfilled.contents import Content, Sound
from backfilled.moments import how_many_until


class RawTable:
    """A table whose rows the entries put and delete."""

    def __init__(self, moment, shape, key_count):
        self.moment = moment
        self.shape = shape
        self.key_count = key_count
        self._empty = Content(shape, Sound([]))
        # For each day the changes, tuples of a key and a row or None, and their moments.
        self._changes = {}
        self._moments = {}
        # For each day the content behind each number of its changes; None if it was not asked for yet.
        self._contents = {}

    def until(self, moment):
        """The table as it was at a moment."""
        many = {day: how_many_until(moments, moment) for day, moments in self._moments.items()}
        copied = RawTable(self.moment, self.shape, self.key_count)
        copied._moments = {day: self._moments[day][:end] for day, end in many.items()}
        copied._changes = {day: self._changes[day][:end] for day, end in many.items()}
        copied._contents = {day: self._contents[day][:end + 1] for day, end in many.items()}
        return copied

    def key_shape(self):
        """The columns of the key."""
        return self.shape[:self.key_count]

    def change(self, moment, day, key, row):
        """Notes that an entry puts a row with a key on a day, or deletes it, if the row is None."""
        self._changes.setdefault(day, []).append((key, row))
        self._moments.setdefault(day, []).append(moment)
        self._contents.setdefault(day, [self._empty]).append(None)

    def plan_on(self, day, moment):
        """No plan: rows are not computed."""
        return None

    def plans_held(self, day):
        """No plans."""
        return {}

    def content_on(self, day, moment):
        """The content on a day at a moment."""
        if day not in self._changes:
            return self._empty
        contents = self._contents[day]
        many = how_many_until(self._moments[day], moment)
        if contents[many] is None:
            rows = {key: row for key, row in self._changes[day][:many]}
            contents[many] = Content(self.shape, Sound([row for row in rows.values() if row is not None]))
        return contents[many]

    def change_moments(self, day):
        """The moments, in order, that may have changed the content on a day, ahead of them the table's."""
        return [self.moment] + self._moments.get(day, [])

    def put_moments(self, day, moment):
        """A dict from the rows on a day at a moment to the moments that put them."""
        many = how_many_until(self._moments.get(day, []), moment)
        last = {}
        for at, (key, row) in zip(self._moments.get(day, [])[:many], self._changes.get(day, [])):
            last[key] = (at, row)
        return {row: at for at, row in last.values() if row is not None}


class DerivedTable:
    """A table whose rows its codes compute."""

    def __init__(self, moment, shape):
        self.moment = moment
        self.shape = shape
        self._empty = Content(shape, Sound([]))
        self._codes = []

    def until(self, moment):
        """The table as it was at a moment."""
        copied = DerivedTable(self.moment, self.shape)
        copied._codes = [code for code in self._codes if code[0] <= moment]
        return copied

    def add_code(self, moment, day, plan):
        """Notes the plan of a code from a day on."""
        self._codes.append((moment, day, plan))

    def plans(self):
        """The plans of all its codes."""
        return [plan for _, _, plan in self._codes]

    def plans_held(self, day):
        """A dict from the texts of all codes that held on a day at some moment to their plans."""
        return {plan.text: plan for _, first, plan in self._codes if first <= day}

    def code_on(self, day, moment):
        """The moment and the plan of the code that holds on a day at a moment, each None if there is none."""
        for at, first, plan in self._codes[::-1]:
            if at <= moment and first <= day:
                return (at, plan)
        return (None, None)

    def plan_on(self, day, moment):
        """The plan of the code that holds on a day at a moment, or None."""
        return self.code_on(day, moment)[1]

    def content_on(self, day, moment):
        """The content on a day on which no code holds."""
        return self._empty

    def change_moments(self, day):
        """The moments, in order, that may have changed the code on a day, ahead of them the table's."""
        return [self.moment] + [at for at, first, _ in self._codes if first <= day]
