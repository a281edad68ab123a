"""Plans: codes that are valid for some tables, ready to be computed on any day."""

from backfilled.checks import reads_of, shapes_of
from backfilled.contents import Content, Sound
from backfilled.steps import rows_behind
from backfilled.trees import inner_first, many_in, take_last


class Plan:
    """A tree that is valid for tables, a dict from names to columns, and its text if it has one."""

    def __init__(self, code, tables, text=None):
        self.tree = code
        self.text = text
        self.parts = inner_first(code)
        self._counts = [many_in(part) for part in self.parts]
        self.shapes = shapes_of(self.parts, tables)
        self.shape = tuple(self.shapes[-1])
        self.reads = reads_of(self.parts)

    def needs_on(self, day):
        """The partitions, tuples (table, day), that the code reads on a day, each once, in order."""
        return [(name, day - back) for name, back in self.reads if back <= day]

    def same_day_tables(self):
        """The names of the tables that the code reads on the very day that it is computed on."""
        return [name for name, back in self.reads if back == 0]

    def content_from(self, day, contents):
        """The content on a day, for a dict from the partitions that are needed to their contents."""
        return Content(self.shape, Sound(self.rows_from(day, contents)[-1]))

    def rows_from(self, day, contents):
        """The rows of each of the parts on a day, for the same dict."""
        found = []
        waiting = []
        for part, columns, many in zip(self.parts, self.shapes, self._counts):
            if many == 0:
                rows = rows_read(part, day, contents)
            else:
                rows = rows_behind(part, day, take_last(waiting, many))
            waiting.append((columns, rows))
            found.append(rows)
        return found


def rows_read(part, day, contents):
    """The rows of a table on a day, or of its last days, each with its day ahead."""
    if part[0] == "table":
        return contents[(part[1], day - part[2])].rows if part[2] <= day else []
    rows = []
    for on in range(max(0, day - part[2] + 1), day + 1):
        rows.extend([(on, *row) for row in contents[(part[1], on)].rows])
    return rows
