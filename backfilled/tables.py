"""The tables of a log, with all that its entries tell of them.

Both classes have the same methods but for the changes that they note: a raw table has no plans,
and a derived one no rows of its own.
"""

from backfilled.contents import Content, Sound
from backfilled.moments import how_many_until


class RawTable:
    """A table whose rows the entries put and delete."""

    def __init__(self, moment, shape, key_count):
        self.moment = moment
        self.shape = shape
        self.key_count = key_count
        # The content without rows, when it was asked for.
        self._empty = None
        # For each day the moments of its changes, these, tuples of a key and a row or None, and the content
        # behind each number of them, None if it was not asked for yet.
        self._days = {}

    def until(self, moment):
        """The table as it was at a moment."""
        copied = RawTable(self.moment, self.shape, self.key_count)
        for day, (moments, changes, contents) in self._days.items():
            many = how_many_until(moments, moment)
            copied._days[day] = (moments[:many], changes[:many], contents[:many + 1])
        return copied

    def key_shape(self):
        """The columns of the key."""
        return self.shape[:self.key_count]

    def change(self, moment, day, key, row):
        """Notes that an entry puts a row with a key on a day, or deletes it, if the row is None."""
        if day not in self._days:
            self._days[day] = ([], [], [None])
        moments, changes, contents = self._days[day]
        moments.append(moment)
        changes.append((key, row))
        contents.append(None)

    def plans_held(self, day):
        """No plans: rows are not computed."""
        return {}

    def plan_held(self, day, text):
        """No plan."""
        return None

    def content_on(self, day, moment):
        """The content on a day at a moment."""
        if day not in self._days:
            return self._empty_content()
        return self._content_behind(day, how_many_until(self._days[day][0], moment))

    def change_moments(self, day):
        """The moments, in order, that changed the content on a day, ahead of them the table's."""
        found = [self.moment]
        if day in self._days:
            rows = {}
            for moment, (key, row) in zip(self._days[day][0], self._days[day][1]):
                if rows.get(key) != row:
                    rows[key] = row
                    found.append(moment)
        return found

    def is_new_content(self, day, moment):
        """Whether any value is a moment that changed the content on a day to one that it never was before."""
        if day not in self._days or moment not in self._days[day][0]:
            return False
        moments, changes, _ = self._days[day]
        at = moments.index(moment)
        if changes[at][1] is not None and changes[at] not in changes[:at]:
            # The row that is put was never there before.
            return True
        content = self._content_behind(day, at + 1)
        return not any([self._content_behind(day, many) == content for many in range(at + 1)])

    def put_moments(self, day, moment):
        """A dict from the rows on a day at a moment to the moments that put them."""
        if day not in self._days:
            return {}
        moments, changes, _ = self._days[day]
        last = {key: (at, row) for at, (key, row) in zip(moments, changes) if at <= moment}
        return {row: at for at, row in last.values() if row is not None}

    def _empty_content(self):
        """The content without rows."""
        if self._empty is None:
            self._empty = Content(self.shape, Sound([]))
        return self._empty

    def _content_behind(self, day, many):
        """The content on a day behind so many of its changes."""
        if many == 0:
            return self._empty_content()
        _, changes, contents = self._days[day]
        if contents[many] is None:
            rows = {key: row for key, row in changes[:many]}
            contents[many] = Content(self.shape, Sound([row for row in rows.values() if row is not None]))
        return contents[many]


class DerivedTable:
    """A table whose rows its codes compute."""

    def __init__(self, moment, shape):
        self.moment = moment
        self.shape = shape
        self._empty = None
        self._codes = []

    def until(self, moment):
        """The table as it was at a moment."""
        copied = DerivedTable(self.moment, self.shape)
        copied._codes = [code for code in self._codes if code[0] <= moment]
        return copied

    def add_code(self, moment, day, plan):
        """Notes the plan of a code from a day on."""
        self._codes.append((moment, day, plan))

    def plans(self):
        """The plans of all its codes."""
        return [plan for _, _, plan in self._codes]

    def plans_held(self, day):
        """A dict from the texts of all codes that held on a day at some moment to their plans."""
        return {plan.text: plan for _, first, plan in self._codes if first <= day}

    def plan_held(self, day, text):
        """The plan of a code, given by its text, that held on a day at some moment, or None."""
        for _, first, plan in self._codes:
            if first <= day and plan.text == text:
                return plan
        return None

    def code_on(self, day, moment):
        """The moment and the plan of the code that holds on a day at a moment, each None if there is none."""
        for at, first, plan in self._codes[::-1]:
            if at <= moment and first <= day:
                return (at, plan)
        return (None, None)

    def plan_on(self, day, moment):
        """The plan of the code that holds on a day at a moment, or None."""
        return self.code_on(day, moment)[1]

    def content_on(self, day, moment):
        """The content on a day on which no code holds."""
        if self._empty is None:
            self._empty = Content(self.shape, Sound([]))
        return self._empty

    def change_moments(self, day):
        """The moments, in order, that may have changed the code on a day, ahead of them the table's."""
        return [self.moment] + [at for at, first, _ in self._codes if first <= day]
