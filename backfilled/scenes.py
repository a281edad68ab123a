"""Scenes: what the lines of a paper may speak of on one day, with all rows there."""

from backfilled.reasons import ways_of
from backfilled.steps import in_order_of
from backfilled.trees import is_path
from backfilled.values import is_day, is_row


class CodeScene:
    """The parts of a code on a day, by their paths."""

    def __init__(self, table, day, plan, inputs):
        self.table = table
        self.day = day
        self._parts = {}
        found = plan.rows_from(day, inputs)
        for path, part, columns, rows in zip(plan.paths(), plan.parts, plan.shapes, found):
            self._parts[path] = (part, columns, {row: True for row in rows})
        self._groups = {}

    def columns_there(self, path):
        """The columns of a part."""
        return self._parts[path][1]

    def place(self, path, row):
        """The row of a part as lines tell it."""
        return (self.table, self.day, path, row)

    def ahead(self, path, row):
        """The row of the code ahead of a part as lines tell it."""
        return self.place(path + (0,), row)

    def holds(self, path, row):
        """Whether any values are a path and a row of the part there."""
        if not is_path(path) or path not in self._parts:
            return False
        return is_row(row, self._parts[path][1]) and row in self._parts[path][2]

    def ways(self, path, row):
        """All ways in which a row of a part may come about."""
        return ways_of(self, path, self._parts[path][0], row)

    def members(self, path, names, key):
        """The rows of the code ahead of a part that have these values in the columns of these names, in order."""
        if path not in self._groups:
            _, columns, rows = self._parts[path + (0,)]
            groups = {}
            ordered = sorted(rows)
            for found, row in zip(in_order_of(names, columns, ordered), ordered):
                groups.setdefault(found, []).append(row)
            self._groups[path] = groups
        return list(self._groups[path][key])


class RawScene:
    """The rows of a raw table on a day, with the moments that put them."""

    def __init__(self, shape, moments):
        self._shape = shape
        self._moments = moments

    def holds(self, path, row):
        """Whether any values are the empty path and a row."""
        return path == () and is_row(row, self._shape) and row in self._moments

    def ways(self, path, row):
        """The only way in which a row came."""
        return [("raw", [self._moments[row]])]


class Scenes:
    """The scenes of a question on a day at a moment."""

    def __init__(self, log, plan, day, moment):
        self.question_day = day
        self._log = log
        self._plan = plan
        self._at = moment
        self._links = log.links_at(moment)
        self._tables = log.tables(moment)
        self._raw = log.raw_tables(moment)
        # Whoever writes a paper often wants it checked: the scenes of tables are kept with the log.
        self._scenes = log.past().scenes_at(moment)
        self._own_scene = None

    def is_place(self, table, day):
        """Whether any values are a table and a day of which lines may speak, or None and the question's day."""
        if not is_day(day):
            return False
        if table is None:
            return day == self.question_day
        if not isinstance(table, str) or table not in self._tables:
            return False
        return table in self._raw or self._links.plan_of((table, day)) is not None

    def scene(self, table, day):
        """The scene of a table, or of the question, on a day."""
        if table is None:
            return self.question_scene()
        if (table, day) not in self._scenes:
            self._scenes[(table, day)] = self._new_scene(table, day)
        return self._scenes[(table, day)]

    def question_scene(self):
        """The scene of the question."""
        if self._own_scene is None:
            self._own_scene = self._code_scene(None, self.question_day, self._plan)
        return self._own_scene

    def _new_scene(self, table, day):
        """The scene of a table on a day, made for the first time."""
        plan = self._links.plan_of((table, day))
        if plan is None:
            return RawScene(self._tables[table], self._log.put_moments(table, day, self._at))
        return self._code_scene(table, day, plan)

    def _code_scene(self, table, day, plan):
        """The scene of a plan on a day."""
        return CodeScene(table, day, plan, self._log.past().contents_at(plan.needs_on(day), self._at))
