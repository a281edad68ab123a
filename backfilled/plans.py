"""Plans: codes that are valid for some tables, ready to be computed on any day."""

from backfilled.checks import reads_of, shapes_of
from backfilled.contents import Content, Sound
from backfilled.steps import maker_for
from backfilled.trees import codes_inner_first, many_in, paths_in, take_last

MOST_KEPT = 8


class Plan:
    """A tree that is valid for tables, a dict from names to columns, and its text if it has one."""

    def __init__(self, code, tables, text=None):
        self.tree = code
        self.text = text
        self.parts = codes_inner_first(code)
        self.shapes = shapes_of(self.parts, tables)
        self.shape = tuple(self.shapes[-1])
        self.reads = reads_of(self.parts)
        # For each part how many parts are within it and what makes its rows; made when it is asked for.
        self._makers = []
        self._paths = []
        # For days the inputs and the contents that were computed last: many who ask need the same ones.
        self._kept = {}

    def needs_on(self, day):
        """The partitions, tuples (table, day), that the code reads on a day, each once, in order."""
        return [(name, day - back) for name, back in self.reads if back <= day]

    def same_day_tables(self):
        """The names of the tables that the code reads on the very day that it is computed on."""
        return [name for name, back in self.reads if back == 0]

    def paths(self):
        """The paths of the parts: a list that is not to be changed."""
        if not self._paths:
            self._paths = paths_in(self.tree)
        return self._paths

    def content_from(self, day, inputs):
        """The content on a day, for a list of the contents of the partitions that are needed, in order."""
        kept = self._kept.get(day, [])
        for known, content in kept:
            if known == inputs:
                return content
        content = Content(self.shape, Sound(self.rows_from(day, inputs)[-1]))
        self._kept[day] = [(inputs, content)] + kept[:MOST_KEPT - 1]
        return content

    def rows_from(self, day, inputs):
        """The rows of each of the parts on a day, for the same list."""
        if not self._makers:
            self._prepare()
        contents = inputs if len(inputs) == len(self.reads) else self._spaced(day, inputs)
        found = []
        waiting = []
        for many, action in self._makers:
            if many == 0:
                rows = action(day, contents)
            elif many == 1:
                rows = action(day, waiting.pop())
            else:
                second = waiting.pop()
                rows = action(day, waiting.pop(), second)
            waiting.append(rows)
            found.append(rows)
        return found

    def _spaced(self, day, inputs):
        """The contents of all that the code reads, None for those ahead of day 0."""
        known = {need: content for need, content in zip(self.needs_on(day), inputs)}
        return [known.get((name, day - back)) for name, back in self.reads]

    def _prepare(self):
        """Makes what makes the rows of the parts."""
        places = {read: at for at, read in enumerate(self.reads)}
        waiting = []
        for part, columns in zip(self.parts, self.shapes):
            many = many_in(part)
            self._makers.append((many, maker_for(part, take_last(waiting, many), places)))
            waiting.append(columns)
